import PyProof.Rows.All
import Wide.All
import OpenK.AllK
import Wide.FinOn
import HandS.ForMost
import HandS.Star
import HandS.Property
import HandS.ClsMeth
import HandS.SlotsOwn
import HandS.More
import HandS.IsInst
import HandS.Zip
import HandS.TupAny
import HandS.SetFor
import HandS.OwnEq
import HandS.Small
import HandS.Exc
import HandS.ExcOwn
import HandS.ExcValue
import HandS.ExcIs
import HandS.ExcField
import HandS.ExcInit
import HandS.Lambda
import PyProof.ReprNest
import PyProof.StrHeap
import HandS.WordsExc
import KE.KCallOwn
import PyProof.EqKinds
import PyProof.NeKinds
import HandS.EndOwn
import KE.KNest
import HandS.Walk
import HandS.StrMore
import HandS.Codes
import HandS.FStr
import PyProof.StrLawsRepr
import HandS.Style
import PyProof.ReprLen
import PySem.Challenge.RW_nearestsays_k04_places_ordered
set_option Elab.async false
set_option maxRecDepth 100000
set_option maxHeartbeats 4000000
namespace Own
open PySem PySem.Spec PyProof.Rows L2
section
variable {X : Cx} {CX : CXT} {C g : Addr} {n : Nat} {sp : Sp} {E : XK}
theorem inst_of {pins : List (Addr × Obj)} {σ : L2.St} {H : Hp} {s : Shared} {a dx : Addr} {fs : List (Str × V)} (I : Inv X pins σ H s) (ea : H a = some (.ins C dx fs)) :
    ∃ od, PySem.W.InstAt s.heap a (PySem.W.instObj C dx) C (some od) := by
  obtain ⟨mA, O, _⟩ := ins_get I.hok ea
  obtain ⟨od, J, _⟩ := O.look
  exact ⟨od, J⟩
/-- a op b, both instances of C -/
theorem op_bin {op : Operator} (hc : PySem.W.selfFirst X.K C = true) (hs : PySem.W.findIn X.K (.ref C) (PySem.dunder op.info.2) = some (some (.ref g))) (hf : PySem.W.isFn X.K (.ref g) = true)
    (F : FnR X.prog X.w X.K X.mg X.base CX n g sp) (hr : Room n X.A) (hx : Passes CX X E) :
    OpR X (binaryOp op) (fun x y H Q => ∃ a b dx fs dy gs, x = .ref a ∧ y = .ref b ∧ H a = some (.ins C dx fs) ∧ H b = some (.ins C dy gs) ∧ sp [.ref a, .ref b] H Q E) := by
  intro pins s σ H x y v u Q I rx ry h
  obtain ⟨a, b, dx, fs, dy, gs, rfl, rfl, ha, hb, q⟩ := h
  cases (show v = Value.ref a from rx)
  cases (show u = Value.ref b from ry)
  obtain ⟨od, J⟩ := inst_of I ha
  obtain ⟨od', J'⟩ := inst_of I hb
  obtain ⟨m, hF⟩ := I.fr
  refine PySem.W.binop_K (op := op) hF I.ok.mod.kin J J'.type hc hs hf ?_
  refine wpAny_mono (wpAny_call (run_fnR (us := [.ref a, .ref b]) (vs := [.ref a, .ref b]) F hr hx I (.cons rfl (.cons rfl .nil)) q)) (fun w s' z => ?_) fun _ _ x => x
  obtain ⟨z', H', I', rz, qz⟩ := z
  exact SlX.cmpback rz ⟨z', H', I', rz, qz⟩
/-- the call of the def at g with values -/
theorem run_g {pins : List (Addr × Obj)} {σ : L2.St} {H : Hp} {s : Shared} {Q : VK} {us : List Value} {vs : List V} (F : FnR X.prog X.w X.K X.mg X.base CX n g sp) (hr : Room n X.A) (hx : Passes CX X E)
    (I : Inv X pins σ H s) (r : Vals vs us) (q : sp vs H Q E) : wpAny (model X.prog X.w) X.A (call (.ref g) us) (EP X pins σ Q) X.xe s :=
  wpAny_call (run_fnR F hr hx I r q)
theorem run_g1 {pins : List (Addr × Obj)} {σ : L2.St} {H : Hp} {s : Shared} {Q : VK} {us : List Value} {vs : List V} (F : FnR X.prog X.w X.K X.mg X.base CX n g sp) (hr : Room (n + 1) X.A) (hx : Passes CX X E)
    (I : Inv X pins σ H s) (r : Vals vs us) (q : sp vs H Q E) : wpAny (model X.prog X.w) X.A.in1 (call (.ref g) us) (EP X pins σ Q) X.xe s := by
  refine wpAny_call (codeAny_mono (F X.A.in1 X.stack s H us vs Q E hr.in1 I.env0.in1 r q) fun r s' hq => ?_)
  cases r with
  | error e => exact hx _ _ _ _ _ _ I hq
  | ok fl =>
    cases fl with
    | ret u => exact I.after hq
    | next => exact False.elim hq
    | brk => exact False.elim hq
    | cont => exact False.elim hq
/-- v in x, x an instance of C with an own __contains__ -/
def rIn (C : Addr) (sp : Sp) (E : XK) (neg : Bool) : R2 := fun x y H Q => ∃ b dx fs, y = .ref b ∧ H b = some (.ins C dx fs) ∧ sp [.ref b, x] H (fun z H' => ∃ k, z = .bl k ∧ Q (.bl (if neg then !k else k)) H') E
theorem op_inO (hs : PySem.W.findIn X.K (.ref C) "__contains__" = some (some (.ref g))) (hf : PySem.W.isFn X.K (.ref g) = true) (F : FnR X.prog X.w X.K X.mg X.base CX n g sp) (hr : Room n X.A) (hx : Passes CX X E) :
    OpR X (compareOp .In) (rIn C sp E false) := by
  intro pins s σ H x y v u Q I rx ry h
  obtain ⟨b, dx, fs, rfl, hb, q⟩ := h
  cases (show u = Value.ref b from ry)
  obtain ⟨od, J⟩ := inst_of I hb
  obtain ⟨m, hF⟩ := I.fr
  refine PySem.W.in_K hF I.ok.mod.kin J hs hf (wpAny_mono (run_g (us := [.ref b, v]) (vs := [.ref b, x]) F hr hx I (.cons rfl (.cons rx .nil)) q) (fun w s' z => ?_) fun _ _ x => x)
  obtain ⟨_, H', I', rz, k, rfl, qz⟩ := z
  cases (show w = Value.bool k from rz)
  exact wpAny_truthy_bool ⟨.bl k, H', I', rfl, qz⟩
theorem op_notInO (hs : PySem.W.findIn X.K (.ref C) "__contains__" = some (some (.ref g))) (hf : PySem.W.isFn X.K (.ref g) = true) (F : FnR X.prog X.w X.K X.mg X.base CX n g sp) (hr : Room n X.A) (hx : Passes CX X E) :
    OpR X (compareOp .NotIn) (rIn C sp E true) := by
  intro pins s σ H x y v u Q I rx ry h
  obtain ⟨b, dx, fs, rfl, hb, q⟩ := h
  cases (show u = Value.ref b from ry)
  obtain ⟨od, J⟩ := inst_of I hb
  obtain ⟨m, hF⟩ := I.fr
  refine PySem.W.notIn_K hF I.ok.mod.kin J hs hf (wpAny_mono (run_g (us := [.ref b, v]) (vs := [.ref b, x]) F hr hx I (.cons rfl (.cons rx .nil)) q) (fun w s' z => ?_) fun _ _ x => x)
  obtain ⟨_, H', I', rz, k, rfl, qz⟩ := z
  cases (show w = Value.bool k from rz)
  exact wpAny_truthy_bool ⟨.bl (!k), H', I', rfl, qz⟩
/-- len(x) -/
theorem call_lenO (hs : PySem.W.findIn X.K (.ref C) "__len__" = some (some (.ref g))) (hf : PySem.W.isFn X.K (.ref g) = true) (F : FnR X.prog X.w X.K X.mg X.base CX n g sp) (hr : Room (n + 1) X.A) (hx : Passes CX X E) :
    CallR X (.builtin "len") (fun xs H Q => ∃ b dx fs, xs = [.ref b] ∧ H b = some (.ins C dx fs) ∧ sp [.ref b] H (fun z H' => ∃ k : Int, z = .int k ∧ (0 ≤ k ∧ k < 2 ^ 63) ∧ Q (.int k) H') E) := by
  intro pins s σ H xs us Q I r h
  obtain ⟨b, dx, fs, rfl, hb, q⟩ := h
  obtain ⟨u, rfl, ru⟩ := vals1 r
  cases (show u = Value.ref b from ru)
  obtain ⟨od, J⟩ := inst_of I hb
  obtain ⟨m, hF⟩ := I.fr
  refine PySem.W.len_K hF I.ok.mod.kin J hs hf (wpAny_mono (run_g1 (us := [.ref b]) (vs := [.ref b]) F hr hx I (.cons rfl .nil) q) (fun w s' z => ?_) fun _ _ x => x)
  obtain ⟨_, H', I', rz, k, rfl, hk, qz⟩ := z
  obtain ⟨t, rfl⟩ := (show ∃ t, w = Value.int k t from rz)
  exact ⟨hk, .int k, H', I'.tok _, ⟨_, rfl⟩, qz⟩
/-- the truth of x by an own __bool__ -/
theorem tru_own (hs : PySem.W.findIn X.K (.ref C) "__bool__" = some (some (.ref g))) (hf : PySem.W.isFn X.K (.ref g) = true) (F : FnR X.prog X.w X.K X.mg X.base CX n g sp) (hr : Room n X.A) (hx : Passes CX X E) :
    TruR X (fun x H Q => ∃ b dx fs, x = .ref b ∧ H b = some (.ins C dx fs) ∧ sp [.ref b] H (fun z H' => ∃ k, z = .bl k ∧ Q k H') E) := by
  intro pins s σ H x v Q I rx h
  obtain ⟨b, dx, fs, rfl, hb, q⟩ := h
  cases (show v = Value.ref b from rx)
  obtain ⟨od, J⟩ := inst_of I hb
  obtain ⟨m, hF⟩ := I.fr
  refine PySem.W.truthy_K hF I.ok.mod.kin J hs hf (wpAny_mono (run_g (us := [.ref b]) (vs := [.ref b]) F hr hx I (.cons rfl .nil) q) (fun w s' z => ?_) fun _ _ x => x)
  obtain ⟨_, H', I', rz, k, rfl, qz⟩ := z
  cases (show w = Value.bool k from rz)
  exact ⟨H', I', qz⟩
theorem pt_tru {a : Expr} {ta : TE} {r : V → Hp → (Bool → Hp → Prop) → Prop} (ht : TruR X r) (ha : PE X a ta) (he : ∀ whole, isTrue a X.env whole = (do let v ← whole; standAt a.pos; holding [v] (truthy v)) := by intro _; rfl) :
    PT X a (fun σ H Q => ta σ H fun x H' => r x H' Q) := by
  refine ⟨fun pins s σ H Q I h => ?_⟩
  exact isTrue_plain (thn (ha.run pins s σ H _ I h) fun v s1 ⟨x, H1, I1, r1, q1⟩ => ht pins s1 σ H1 x v Q I1 r1 q1) (he _)
/-- x == y by an own __eq__ of x's class -/
theorem op_eqO (hs : PySem.W.findIn X.K (.ref C) "__eq__" = some (some (.ref g))) (hf : PySem.W.isFn X.K (.ref g) = true) (F : FnR X.prog X.w X.K X.mg X.base CX n g sp) (hr : Room n X.A) (hx : Passes CX X E) :
    OpR X (compareOp .Eq) (fun x y H Q => ∃ a b dx fs dy gs, x = .ref a ∧ y = .ref b ∧ H a = some (.ins C dx fs) ∧ H b = some (.ins C dy gs) ∧ sp [.ref a, .ref b] H Q E) := by
  intro pins s σ H x y v u Q I rx ry h
  obtain ⟨a, b, dx, fs, dy, gs, rfl, rfl, ha, hb, q⟩ := h
  cases (show v = Value.ref a from rx)
  cases (show u = Value.ref b from ry)
  obtain ⟨od, J⟩ := inst_of I ha
  obtain ⟨od', J'⟩ := inst_of I hb
  obtain ⟨m, hF⟩ := I.fr
  show wpAny _ _ (richCompare .Eq (.ref a) (.ref b)) _ _ s
  refine PySem.W.cmp_K (op := .Eq) (tb := .ref C) hr.units0 hF I.ok.mod.kin J J'.type (by unfold PySem.W.notFirst; simp) hs hf ?_
  refine wpAny_mono (run_g (us := [.ref a, .ref b]) (vs := [.ref a, .ref b]) F hr hx I (.cons rfl (.cons rfl .nil)) q) (fun w s' z => ?_) fun _ _ x => x
  obtain ⟨z', H', I', rz, qz⟩ := z
  exact SlX.cmpback rz ⟨z', H', I', rz, qz⟩
end
end Own

namespace Own
open PySem PySem.Spec PyProof.Rows L2
section
variable {prog : Program} {w : World} {A : Around} {E : Value → Shared → Prop} {s : Shared} {K : PySem.W.Frag} {x C g : Addr} {ox : Obj} {od : Option Obj} {b : Value}
theorem check_obj {M : Model} {id n : String} {rest : List Value} {Q : Unit → Shared → Prop} (X : K.In s.heap) (I : PySem.W.InstAt s.heap x ox C od) (hk : builtinKind id = some .slot) (hs : splitId id = some ("object", n))
    (ha : argsOk id ⟨.ref x :: rest, []⟩) (hsub : PySem.W.subIn K (.ref C) (.type "object") = some true) (hq : Q () s) : wpAny M A (checkBuiltinCall id ⟨.ref x :: rest, []⟩) Q E s := by
  simp only [checkBuiltinCall, hk, hs]
  refine wpAny_bind ?_
  unfold isInstance
  refine wpAny_bind (I.type.here ((PySem.W.looks_subIn X hsub).here ?_))
  cases hsig : Manifest.signature? id with
  | none => exact wpAny_pure hq
  | some sig =>
    simp only [argsOk, hsig] at ha
    have h2 : Bind.checkArgs id sig ⟨.ref x :: rest, []⟩ = pure () := ha
    show wpAny M A (Bind.checkArgs id sig ⟨.ref x :: rest, []⟩) Q E _
    rw [h2]; exact wpAny_pure hq
theorem ne_K {prog : Program} {w : World} {Q : Value → Shared → Prop} {tb : Value} (hu : A.units + 1 < cLine) (X : K.In s.heap) (I : PySem.W.InstAt s.heap x ox C od) (hb : PySem.W.Looks (model prog w) s.heap (typeOf b) tb) (hn : PySem.W.notFirst K C tb = true)
    (hne : PySem.W.findIn K (.ref C) "__ne__" = some (some (.builtin "object.__ne__"))) (hs : PySem.W.findIn K (.ref C) "__eq__" = some (some (.ref g))) (hf : PySem.W.isFn K (.ref g) = true)
    (hsub : PySem.W.subIn K (.ref C) (.type "object") = some true)
    (h : wpAny (model prog w) A.in1 (call (.ref g) [.ref x, b]) (fun v s' => ∃ k, v = Value.bool k ∧ Q (.bool (!k)) s') E s) : wpAny (model prog w) A (richCompare .NotEq (.ref x) b) Q E s := by
  have hu0 : A.units < cLine := Nat.lt_of_succ_lt hu
  have body2 : wpAny (model prog w) A (call (.builtin "object.__ne__") [.ref x, b]) (fun v s' => ∃ k, v = Value.bool k ∧ Q v s') E s := by
    refine wpAny_call (codeAny_call_builtin PySem.F.cmp_object.ne.plain PySem.F.cmpEntry_ne (check_obj X I PySem.F.cmpKind_ne PySem.F.cmpSplit_ne (PySem.F.cmpArgs_ne _ _) hsub ?_))
    show wpAny (model prog w) A.in1 (Builtin.«object.__ne__» ⟨[.ref x, b], []⟩) _ _ s
    unfold Builtin.«object.__ne__»
    refine wpAny_bind (m := slotArgs "__ne__" 1 _) (wpAny_pure ?_)
    refine wpAny_bind (wpAny_cRoomFor (by exact hu) ?_)
    refine wpAny_bind (m := callSpecialIfBound? (.ref x) (Str.ofString "__eq__") _) (PySem.W.ifBound_K X I hs hf (wpAny_mono h (fun r s' hr => ?_) fun _ _ y => y))
    obtain ⟨k, rfl, q⟩ := hr
    refine wpAny_bind (wpAny_truthy_bool ?_)
    exact wpAny_pure ⟨_, rfl, q⟩
  have one : wpAny (model prog w) A (tryCompare (.ref x) (Str.ofString "__ne__") b) (fun r s' => ∃ v, r = some v ∧ Q v s') E s := by
    unfold tryCompare
    refine wpAny_bind ?_
    simp only [callSpecialIfBound?, bindSpecialIfBound?]
    refine wpAny_holding (wpAny_bind (wpAny_bind (wpAny_bind (I.type.here ((PySem.W.looks_findIn X hne).here ?_)))))
    simp only [PySem.F.cmp_object.ne.bind]
    have fin : wpAny (model prog w) A (call (.builtin "object.__ne__") ([.ref x] ++ [b]) >>= fun v => pure (some v)) (fun r s' => wpAny (model prog w) A (match r with | some .notImplemented | none => pure none | some v => pure (some v)) (fun r s' => ∃ v, r = some v ∧ Q v s') E s') E s := by
      refine wpAny_bind (wpAny_mono body2 (fun v s' hv => wpAny_pure ?_) fun _ _ z => z)
      obtain ⟨k, rfl, hv⟩ := hv
      exact wpAny_pure ⟨_, rfl, hv⟩
    refine wpAny_bind (wpAny_askSetting (wpAny_ite ?_))
    split
    · exact wpAny_bind (wpAny_pure (wpAny_pure (by exact fin)))
    · exact wpAny_tryCatch (wpAny_bind (wpAny_pure (wpAny_pure (by exact fin))))
  unfold richCompare
  simp only [oneThing_ref]
  refine wpAny_holding (wpAny_bind (wpAny_cRoomFor hu0 ?_))
  refine wpAny_bind (I.type.here (wpAny_bind (hb.here ?_)))
  split
  · rename_i q
    have e : PySem.W.subIn K tb (.ref C) = some false := by
      rcases Bool.or_eq_true_iff.mp hn with e | e
      · rw [beq_iff_eq.mp e] at q; simp at q
      · exact beq_iff_eq.mp e
    refine wpAny_bind ((PySem.W.looks_subIn X e).here ?_)
    simp only [Bool.false_eq_true, if_false]
    refine wpAny_bind (wpAny_mono one (fun r s' z => ?_) fun _ _ e => e)
    obtain ⟨v, rfl, hq⟩ := z
    exact wpAny_pure hq
  · refine wpAny_bind (wpAny_pure ?_)
    simp only [Bool.false_eq_true, if_false]
    refine wpAny_bind (wpAny_mono one (fun r s' z => ?_) fun _ _ e => e)
    obtain ⟨v, rfl, hq⟩ := z
    exact wpAny_pure hq
theorem binop_S {b : Str} {tk : Tok} {Q : Value → Shared → Prop} (X : K.In s.heap) (I : PySem.W.InstAt s.heap x ox C od) (hc : PySem.W.selfFirst K C = true) 
    (hs : PySem.W.findIn K (.ref C) (PySem.dunder "add") = some (some (.ref g))) (hf : PySem.W.isFn K (.ref g) = true)
    (h : wpAny (model prog w) A (call (.ref g) [.ref x, .str b tk]) (PySem.W.CmpBack Q) E s) : wpAny (model prog w) A (binaryOp .Add (.ref x) (.str b tk)) Q E s := by
  obtain ⟨cd, hcd, hm⟩ := PySem.W.any_some hc
  obtain ⟨rest, hm⟩ : ∃ rest, cd.mro = .ref C :: rest := by
    cases q : cd.mro with
    | nil => rw [q] at hm; cases hm
    | cons a r => rw [q] at hm; exact ⟨r, by rw [List.head?_cons] at hm; cases (beq_iff_eq.mp hm); rfl⟩
  unfold binaryOp
  refine wpAny_holding (wpAny_bind ?_)
  unfold binaryOp1
  refine wpAny_bind (I.type.here (wpAny_bind (wpAny_pure (wpAny_bind ((PySem.W.fills_K X hcd hm hs).here ?_)))))
  have hne : (Value.ref C == Value.type "str") = false := rfl
  simp only [hne, Bool.false_eq_true, if_false]
  refine wpAny_bind (wpAny_of_eq (a := false) PySem.noFill_str_add ?_)
  simp only [Bool.and_false, Bool.false_eq_true, if_false, Bool.false_and]
  refine wpAny_bind (wpAny_pure ?_)
  simp only [Bool.false_eq_true, if_false]
  refine wpAny_bind (m := tryMethod (.ref x) _ (.str b tk)) ?_
  unfold tryMethod
  refine wpAny_bind (PySem.W.special_fn X I hs (beq_iff_eq.mp hf) (wpAny_mono h (fun v s' hv => ?_) fun _ _ e => e))
  cases v <;> first | exact hv.elim | exact wpAny_pure (wpAny_pure (wpAny_pure hv))
end
section
variable {X : Cx} {CX : CXT} {C g : Addr} {n : Nat} {sp : Sp} {E : XK}
/-- x != y by an own __eq__ of x's class, no own __ne__ -/
theorem op_neO (hne : PySem.W.findIn X.K (.ref C) "__ne__" = some (some (.builtin "object.__ne__"))) (hsub : PySem.W.subIn X.K (.ref C) (.type "object") = some true)
    (hs : PySem.W.findIn X.K (.ref C) "__eq__" = some (some (.ref g))) (hf : PySem.W.isFn X.K (.ref g) = true) (F : FnR X.prog X.w X.K X.mg X.base CX n g sp) (hr : Room (n + 1) X.A) (hx : Passes CX X E) :
    OpR X (compareOp .NotEq) (fun x y H Q => ∃ a b dx fs dy gs, x = .ref a ∧ y = .ref b ∧ H a = some (.ins C dx fs) ∧ H b = some (.ins C dy gs) ∧ sp [.ref a, .ref b] H (fun z H' => ∃ k, z = .bl k ∧ Q (.bl (!k)) H') E) := by
  intro pins s σ H x y v u Q I rx ry h
  obtain ⟨a, b, dx, fs, dy, gs, rfl, rfl, ha, hb, q⟩ := h
  cases (show v = Value.ref a from rx)
  cases (show u = Value.ref b from ry)
  obtain ⟨od, J⟩ := inst_of I ha
  obtain ⟨od', J'⟩ := inst_of I hb
  show wpAny _ _ (richCompare .NotEq (.ref a) (.ref b)) _ _ s
  refine ne_K (tb := .ref C) (hu_of hr) I.kIn J J'.type (by unfold PySem.W.notFirst; simp) hne hs hf hsub ?_
  refine wpAny_mono (run_g1 (us := [.ref a, .ref b]) (vs := [.ref a, .ref b]) F hr hx I (.cons rfl (.cons rfl .nil)) q) (fun w s' z => ?_) fun _ _ x => x
  obtain ⟨_, H', I', rz, k, rfl, qz⟩ := z
  cases (show w = Value.bool k from rz)
  exact ⟨k, rfl, .bl (!k), H', I', rfl, qz⟩
/-- x + "text" -/
theorem op_addS (hc : PySem.W.selfFirst X.K C = true) (hs : PySem.W.findIn X.K (.ref C) "__add__" = some (some (.ref g))) (hf : PySem.W.isFn X.K (.ref g) = true)
    (F : FnR X.prog X.w X.K X.mg X.base CX n g sp) (hr : Room n X.A) (hx : Passes CX X E) :
    OpR X (binaryOp .Add) (fun x y H Q => ∃ a dx fs t, x = .ref a ∧ y = .str t ∧ H a = some (.ins C dx fs) ∧ sp [.ref a, .str t] H Q E) := by
  intro pins s σ H x y v u Q I rx ry h
  obtain ⟨a, dx, fs, t, rfl, rfl, ha, q⟩ := h
  cases (show v = Value.ref a from rx)
  obtain ⟨tk, rfl⟩ := (show ∃ tk, u = Value.str t tk from ry)
  obtain ⟨od, J⟩ := inst_of I ha
  refine binop_S I.kIn J hc hs hf ?_
  refine wpAny_mono (run_g (us := [.ref a, .str t tk]) (vs := [.ref a, .str t]) F hr hx I (.cons rfl (.cons ⟨_, rfl⟩ .nil)) q) (fun w s' z => ?_) fun _ _ x => x
  obtain ⟨z', H', I', rz, qz⟩ := z
  exact SlX.cmpback rz ⟨z', H', I', rz, qz⟩
end
end Own

namespace Own
open PySem PySem.Spec PyProof.Rows L2
section
variable {M : Model} {A : Around} {E : Value → Shared → Prop} {s : Shared}
theorem ea_two {f : Value} {x : Sem Value} {b : Bool × Sem Value} {r : List (Bool × Sem Value)} {Q : Args → Shared → Prop} (h : wpAny M A (spliced ((true, x) :: b :: r)) (fun vs s₁ => Q ⟨vs, []⟩ s₁) E s) :
    wpAny M A (evalArgs f true ((true, x) :: b :: r) []) Q E s := by
  unfold evalArgs
  refine wpAny_bind (m := spliced ((true, x) :: b :: r)) (wpAny_mono h (fun vs s₁ h₁ => wpAny_bind (wpAny_pure ?_)) fun _ _ z => z)
  refine wpAny_holding ?_
  refine wpAny_bind (m := evalAll []) (wpAny_evalAll_nil ?_)
  exact wpAny_bind (wpAny_pure (wpAny_pure h₁))
end
section
variable {X : Cx} {CX : CXT} {k i : Nat} {f C p_ g : Addr} {mc : Value} {sp : Sp} {E : XK} {x m : Str} {e e2 o : Expr} {es : List Expr} {te ta t2 : TE} {t : TA} {p pos apos : Pos} {pl : Sem Bool}
def tStar1 (K : PySem.W.Frag) (te : TE) : TA := fun σ H Q => te σ H fun y H1 => ∃ a xs, y = V.ref a ∧ (SqT K H1 a xs ∨ SqL K H1 a xs) ∧ Q xs H1
/-- C(*y) -/
theorem pe_makeS (M : Mk X.K C f) (F : FnR X.prog X.w X.K X.mg X.base CX k f sp) (hr : Room (k + 1) X.A) (hg : Gl X x) (hm : X.mg x = some (.ref C)) (hx : Passes CX X E) (he : PE X e te) (hdb : (x == ("__debug__" : Str)) = false := by decide)
    (hst : starEach [.Starred e p] X.env = [(true, eval e X.env)] := by rfl) :
    PE X (.Call (.Name x apos) [.Starred e p] [] pos) (StX.tMakeR C sp E (tStar1 X.K te)) := by
  refine ⟨fun pins s σ H Q I h => ?_⟩
  refine wpAny_Call_Name_kw (ld_glob I hg hm ?_ hdb)
  refine PySem.W.callWith_S (h₀ := X.base) I.ok.mod.kin M.kp (thn (he.run pins s σ H _ I h) fun v s1 ⟨y, H1, I1, ry, a, xs, ey, hxs, q⟩ => ?_) hst
  subst ey
  obtain rfl : v = Value.ref a := ry
  exact StX.star_any I1 hxs fun us s2 I2 rv => ⟨I2.kIn, StX.run_makeR M F hr hx I2 rv q⟩
/-- c(*y), c a name of the def that holds the class -/
theorem pe_makeLS (M : Mk X.K C f) (F : FnR X.prog X.w X.K X.mg X.base CX k f sp) (hr : Room (k + 1) X.A) (hc : PE X (.Name x apos) (tVar i)) (hx : Passes CX X E) (he : PE X e te)
    (hst : starEach [.Starred e p] X.env = [(true, eval e X.env)] := by rfl) :
    PE X (.Call (.Name x apos) [.Starred e p] [] pos) (fun σ H Q => σ[i]? = some (some (.ref C)) ∧ StX.tMakeR C sp E (tStar1 X.K te) σ H Q) := by
  refine ⟨fun pins s σ H Q I h => ?_⟩
  obtain ⟨h0, h⟩ := h
  refine wpAny_Call_Name_kw (thn (hc.run pins s σ H (fun v H' => v = .ref C ∧ H' = H) I ⟨.ref C, h0, rfl, rfl⟩) fun v s1 ⟨y, H1, I1, ry, ey, eH⟩ => ?_)
  subst ey
  subst eH
  obtain rfl : v = Value.ref C := ry
  refine PySem.W.callWith_S (h₀ := X.base) I1.ok.mod.kin M.kp (thn (he.run pins s1 σ _ _ I1 h) fun v s1 ⟨y, H1, I1, ry, a, xs, ey, hxs, q⟩ => ?_) hst
  subst ey
  obtain rfl : v = Value.ref a := ry
  exact StX.star_any I1 hxs fun us s2 I2 rv => ⟨I2.kIn, StX.run_makeR M F hr hx I2 rv q⟩
/-- C(*y, e) -/
theorem pe_makeS1 (M : Mk X.K C f) (F : FnR X.prog X.w X.K X.mg X.base CX k f sp) (hr : Room (k + 1) X.A) (hg : Gl X x) (hm : X.mg x = some (.ref C)) (hx : Passes CX X E) (ha : PA X [.Starred e p, e2] t) (hdb : (x == ("__debug__" : Str)) = false := by decide)
    (hst : starEach [.Starred e p, e2] X.env = [(true, eval e X.env), (false, eval e2 X.env)] := by rfl) :
    PE X (.Call (.Name x apos) [.Starred e p, e2] [] pos) (StX.tMakeR C sp E t) := by
  refine ⟨fun pins s σ H Q I h => ?_⟩
  refine wpAny_Call_Name_kw (ld_glob I hg hm ?_ hdb)
  have z := ha.run pos pins s σ H _ I h
  show wpAny _ _ (callWith pos (.ref C) [] (backTo pos (starEach [.Starred e p, e2] X.env)) []) _ _ s
  rw [hst] at z ⊢
  refine PySem.W.ks_call rfl (PySem.W.keeps_K M.kp) (ea_two (thn z fun us s1 ⟨vs, H1, I1, r, q⟩ => ⟨I1.kIn, ?_⟩))
  exact StX.run_makeR M F hr hx I1 r q
/-- C() -/
theorem pe_makeR0 (M : Mk X.K C f) (F : FnR X.prog X.w X.K X.mg X.base CX k f sp) (hr : Room (k + 1) X.A) (hg : Gl X x) (hm : X.mg x = some (.ref C)) (hx : Passes CX X E) (hdb : (x == ("__debug__" : Str)) = false := by decide) :
    PE X (.Call (.Name x apos) [] [] pos) (StX.tMakeR C sp E tNil) := by
  refine ⟨fun pins s σ H Q I h => ?_⟩
  refine wpAny_Call_Name_kw (ld_glob I hg hm ?_ hdb)
  exact PySem.W.callWith_K0 I.kIn M.kp (StX.run_makeR (us := []) M F hr hx I .nil h)

/-- C.m is a staticmethod: its record at p, its def at g -/
structure SMet (K : PySem.W.Frag) (C : Addr) (mc : Value) (m : Str) (p g : Addr) : Prop where
  at_ : PySem.W.findCls K (.ref C) mc m = some (.get (.builtin "staticmethod.__get__") (.ref p) .none (.ref C))
  rc : ∃ rest, PySem.W.recIn K p "staticmethod" = some (.ref g :: rest)
  kp : PySem.W.keepIn K (.ref g) = true
theorem getmethsm_ok {pins : List (Addr × Obj)} {σ : L2.St} {H : Hp} {s : Shared} {A : Around} {E : Value → Shared → Prop} {Q : Value × List Value → Shared → Prop} (I : Inv X pins σ H s) (r : ClX.CRead X.K C mc) (k : SMet X.K C mc m p_ g)
    (h : ∀ s', Inv X pins σ H s' → Q (.ref g, []) s') : wpAny (model X.prog X.w) A (getMethod (.ref C) m pl) Q E s := by
  obtain ⟨rest, hp⟩ := k.rc
  refine PySem.W.method_cls I.kIn r.ga (PySem.W.cls_bind I.kIn r.rd k.at_ ?_)
  refine wpAny_call (PySem.W.sm_get (s := { s with toks := s.toks + 1 }) I.kIn hp (PySem.W.handed_on rfl ?_))
  exact h _ (I.tok _)
/-- C.m(e, ..) -/
def tSMeth (C : Addr) (sp : Sp) (E : XK) (ta : TE) (t : TA) : TE := fun σ H Q => ta σ H fun x H1 => x = .ref C ∧ t σ H1 fun vs H2 => sp vs H2 Q E
theorem pe_smeth (he : PE X o ta) (r : ClX.CRead X.K C mc) (c : SMet X.K C mc m p_ g) (F : FnR X.prog X.w X.K X.mg X.base CX k g sp) (hr : Room k X.A) (hx : Passes CX X E) (ha : PA X (e :: es) t)
    (hst : starEach (e :: es) X.env = (false, eval e X.env) :: starEach es X.env := by rfl) (hpl : (backTo pos (starEach es X.env)).any (·.1) = false := by rfl)
    (ht : eval (.Call (.Attribute o m apos) (e :: es) [] pos) X.env = (do
      let ov ← eval o X.env
      standAt apos.atName
      let (f, first) ← holding [ov] (getMethod ov m pl)
      callWith pos f first (backTo pos (starEach (e :: es) X.env)) (backToKw pos (keywordEach [] X.env))) := by rfl) :
    PE X (.Call (.Attribute o m apos) (e :: es) [] pos) (tSMeth C sp E ta t) := by
  refine ⟨fun pins s σ H Q I h => ?_⟩
  refine PySem.W.methodCall_KW (pl := pl) (thn (he.run pins s σ H _ I h) fun u s1 ⟨x, H1, I1, rx, ex, q⟩ => ?_) ht
  subst ex
  obtain rfl : u = Value.ref C := rx
  refine getmethsm_ok I1 r c fun s2 I2 => ?_
  refine PySem.W.callWith_K (first := []) (h₀ := X.base) I.ok.mod.kin c.kp (thn (ha.run pos pins s2 σ H1 _ I2 q) fun us s3 ⟨vs, H2, I3, r, q2⟩ => ⟨I3.kIn, ?_⟩) hst hpl
  exact run_g F hr hx I3 r q2
/-- o.m(k = e), no positional argument: by a def's promise over its bound parameters [self, e] -/
def tMethK1 (C : Addr) (m : Str) (sp : Sp) (E : XK) (ta te : TE) : TE := fun σ H Q => ta σ H fun x H1 => ∃ a dx fs, x = .ref a ∧ H1 a = some (.ins C dx fs) ∧ fs.lookup m = none ∧ tCons te tNil σ H1 fun zs H2 => sp (x :: zs) H2 Q E
theorem pe_methK1 {fd : FuncData} {kn : Str} {kpos : Pos} {a1 : Str} (he : PE X o ta) (c : Cls X.K C) (hm : Meth X.K C m f) (F : FnOk X.prog X.w X.K X.mg X.base CX k f fd [a1, kn] sp) (hr : Room k X.A)
    (hb : ∀ (s : Shared) (u v : Value), X.K.In s.heap → BindsTo s fd ⟨[u], [(kn, v)]⟩ [(a1, u), (kn, v)]) (hx : Passes CX X E) (hk : PE X e te)
    (ht : eval (.Call (.Attribute o m apos) [] [⟨some kn, e, kpos⟩] pos) X.env = (do
      let ov ← eval o X.env
      standAt apos.atName
      let (f, first) ← holding [ov] (getMethod ov m pl)
      callWith pos f first (backTo pos (starEach [] X.env)) (backToKw pos (keywordEach [⟨some kn, e, kpos⟩] X.env))) := by rfl) :
    PE X (.Call (.Attribute o m apos) [] [⟨some kn, e, kpos⟩] pos) (tMethK1 C m sp E ta te) := by
  refine ⟨fun pins s σ H Q I h => ?_⟩
  refine PySem.W.methodCall_KW (pl := pl) (thn (he.run pins s σ H _ I h) fun u s1 ⟨x, H1, I1, rx, a, dx, fs, ex, ea, l, q⟩ => ?_) ht
  subst ex
  obtain rfl : u = Value.ref a := rx
  refine getmeth_ok I1 ea c hm l ?_
  refine PySem.W.callWith_KW0 (first := [.ref a]) (h₀ := X.base) I.ok.mod.kin hm.kp rfl (thn ((pk_cons (nm := some kn) (kpos := kpos) hk pk_nil).run pos pins s1 σ H1 _ I1 q) fun ws s2 ⟨zs, H2, I2, rz, q2⟩ => ⟨I2.kIn, ?_⟩) rfl
  have hl := F.len _ _ _ _ q2
  obtain ⟨z, rfl⟩ : ∃ z, zs = [z] := by
    match zs, hl with
    | [z], _ => exact ⟨z, rfl⟩
  obtain ⟨u', rfl, ru⟩ := vals1 rz
  refine wpAny_call (codeAny_mono (F.run X.A X.stack s2 H2 ⟨[.ref a], [(kn, u')]⟩ [.ref a, u'] [.ref a, z] Q E hr I2.env0 (hb s2 _ _ I2.kIn) (.cons rfl (.cons ru .nil)) q2) fun r s' hq => ?_)
  cases r with
  | error e => exact hx pins σ H2 s2 e s' I2 hq
  | ok fl =>
    cases fl with
    | ret u => exact I2.after hq
    | next => exact False.elim hq
    | brk => exact False.elim hq
    | cont => exact False.elim hq
end
end Own

namespace Own
open PySem PySem.Spec PyProof.Rows L2
/-- the order of tuples of texts -/
def lexS : List Str → List Str → Bool
  | [], [] => false
  | [], _ :: _ => true
  | _ :: _, [] => false
  | x :: xs, y :: ys => if x = y then lexS xs ys else decide (x.cps.toList < y.cps.toList)
theorem rcLt_str {prog : Program} {w : World} (A : Around) (s : Shared) (a : Str) (t : Tok) (c : Str) (u : Tok) (E : Value → Shared → Prop) (Q : Value → Shared → Prop) (h : Q (.bool (decide (a.cps.toList < c.cps.toList))) s) :
    wpAny (model prog w) A (richCompare .Lt (.str a t) (.str c u)) Q E s :=
  (PyProof.Rows.lt_str h : wpAny (model prog w) A (compareOp .Lt (.str a t) (.str c u)) Q E s)
section
open PySem.SeqAt
open PySem.AutoSeq1 (wpAny_loadPart')
open PySem.MeetsSeq PySem.MeetsSeq2 PySem.MeetsSeq3
theorem tuple_lt_strs (l b : Addr) (its its2 : Array Value) (n n2 : Nat) (dd dd2 : Option Addr) (sl sl2 : Array (Option Value)) (ns ms : List Str) (hi : StrsAre its.toList ns) (hj : StrsAre its2.toList ms)
    (z1 : its.size = ns.length) (z2 : its2.size = ms.length) :
    Meets (Builtin.«tuple.__lt__» ⟨[.ref l, .ref b], []⟩)
      (fun _ R s => s.heap.get? l = some { cls := .type "tuple", dict := dd, data := .seq its n, slots := sl } ∧ s.heap.get? b = some { cls := .type "tuple", dict := dd2, data := .seq its2 n2, slots := sl2 } ∧
        R (.ok (.ret (.bool (lexS ns ms)))) s) :=
  .of_wp fun prog w A R s h => by
    obtain ⟨hp, g, d, tk, os⟩ := s
    obtain ⟨hl, hb, h⟩ := h
    have f2 := AutoSeq1.sub_tuple_tuple
    wp_walk using wpAny_loadPart' hl, wpAny_loadPart' hb, wpAny_forIn_list _ (fun rest b s' => b.1 = none ∧ s' = ⟨hp, g, d, tk, os⟩ ∧ ∃ (vs ws : List Value) (ns' ms' : List Str), rest = vs.zip ws ∧
      StrsAre vs ns' ∧ StrsAre ws ms' ∧ ns'.length + its2.size = ms'.length + its.size ∧ R (.ok (.ret (.bool (lexS ns' ms')))) ⟨hp, g, d, tk, os⟩) _
    case turn =>
      rintro ⟨y, x⟩ rest b s' ⟨hb', rfl, vs, ws, ns', ms', hz, hvi, hwi, hlen, hR⟩
      cases hvi with
      | nil =>
        rw [List.zip_nil_left] at hz
        cases hz
      | cons a t hvi' =>
        cases hwi with
        | nil =>
          rw [List.zip_nil_right] at hz
          cases hz
        | cons c u hwi' =>
          rw [List.zip_cons_cons] at hz
          injection hz with hyx hrest
          injection hyx with hy hx
          subst hy hx
          have hR2 : R (.ok (.ret (.bool (if a = c then lexS _ _ else decide (a.cps.toList < c.cps.toList))))) ⟨hp, g, d, tk, os⟩ := hR
          simp only [List.length_cons] at hlen
          have he := SeqAt.EqAt.str_str (A := A.in1) (s := ⟨hp, g, d, tk, os⟩) a t c u
          refine wpAny_bind (he prog w _ _ ?_)
          by_cases hac : a = c
          · rw [if_pos hac] at hR2
            rw [show (a == c) = true from beq_iff_eq.mpr hac]
            wp_walk
            exact ⟨rfl, rfl, _, _, _, _, hrest, hvi', hwi', by omega, hR2⟩
          · rw [if_neg hac] at hR2
            rw [show (a == c) = false from beq_eq_false_iff_ne.mpr hac]
            have hri := rcLt_str (prog := prog) (w := w) A.in1 ⟨hp, g, d, tk, os⟩ a t c u
            wp_walk using hri
            exact ⟨_, rfl, by simpa using hR2⟩
    case fin =>
      rintro ⟨b1, b2⟩ s' ⟨hb', rfl, vs, ws, ns', ms', hz, hvi, hwi, hlen, hR⟩
      simp only at hb'
      subst hb'
      have hv : lexS ns' ms' = decide (its.size < its2.size) := by
        cases hvi with
        | nil =>
          cases hwi with
          | nil =>
            simp only [List.length_nil] at hlen
            show false = _
            exact (decide_eq_false (by omega)).symm
          | cons c u hw =>
            simp only [List.length_nil, List.length_cons] at hlen
            show true = _
            exact (decide_eq_true (by omega)).symm
        | cons a t hv =>
          cases hwi with
          | nil =>
            simp only [List.length_nil, List.length_cons] at hlen
            show false = _
            exact (decide_eq_false (by omega)).symm
          | cons c u hw =>
            rw [List.zip_cons_cons] at hz
            cases hz
      rw [hv] at hR
      wp_walk
      exact ⟨_, rfl, by simpa [Builtin.Tuple.tupleCompareSizes] using hR⟩
    case h =>
      exact ⟨rfl, rfl, its.toList, its2.toList, ns, ms, rfl, hi, hj, by omega, h⟩
end
section
variable {X : Cx}
/-- t < u, tuples of texts -/
theorem op_ltTS (hu : X.A.units < cLine) : OpR X (compareOp .Lt) (fun x y H Q => ∃ a b ns ms, x = .ref a ∧ y = .ref b ∧ SqT X.K H a (ns.map V.str) ∧ SqT X.K H b (ms.map V.str) ∧ Q (.bl (lexS ns ms)) H) := by
  intro pins s σ H x y v u Q I rx ry h
  obtain ⟨a, b, ns, ms, rfl, rfl, ha, hb, q⟩ := h
  cases rx
  cases ry
  obtain ⟨its, r1, p1, _⟩ := I.tuple ha
  obtain ⟨its2, r2, p2, _⟩ := I.tuple hb
  have i1 : StrsAre its.toArray.toList ns := strs_of_vals r1
  have i2 : StrsAre its2.toArray.toList ms := strs_of_vals r2
  have z1 : its.toArray.size = ns.length := by
    have := r1.length
    simp at this ⊢
    omega
  have z2 : its2.toArray.size = ms.length := by
    have := r2.length
    simp at this ⊢
    omega
  obtain ⟨⟨cls, dd, data, sl⟩, ho, hc, n, hd⟩ := id p1
  obtain ⟨⟨cls2, dd2, data2, sl2⟩, ho2, hc2, n2, hd2⟩ := id p2
  simp only at hc hd hc2 hd2
  subst hc hd hc2 hd2
  exact richCompare_meets_room (op := .Lt) ⟨_, ho, rfl⟩ ⟨_, ho2, rfl⟩ PySem.F.slot_tuple_lt PySem.F.entry_tuple_lt (PySem.F.args_tuple_lt_2 _ _) (tuple_lt_strs a b its.toArray its2.toArray n n2 dd dd2 sl sl2 ns ms i1 i2 z1 z2)
    ⟨ho, ho2, show Value.bool (lexS ns ms) ≠ Value.notImplemented ∧ EP X pins σ Q (Value.bool (lexS ns ms)) s from ⟨(fun x => nomatch x), .bl (lexS ns ms), H, I, rfl, q⟩⟩ hu
end
end Own

namespace Own
open PySem PySem.Spec PyProof.Rows L2
section
open PySem.SeqAt
open PySem.AutoSeq1 (wpAny_loadPart')
open PySem.MeetsSeq PySem.MeetsSeq2 PySem.MeetsSeq3 PySem.SeqRoads2
variable {prog : Program} {w : World} {A : Around} {R : Result → Shared → Prop}
/-- at each turn the list is read anew -/
def ConI (prog : Program) (w : World) (A : Around) (E : Value → Shared → Prop) (l : Addr) (x : Value) (N : Nat) (res : Nat → Bool) (I : Nat → Shared → Prop) : Prop :=
  ∀ i s, I i s → ∃ (items : Array Value) (n : Nat), s.heap.get? l = some { cls := .type "list", data := .seq items n } ∧ items.size = N ∧
    ∀ (h1 : i < items.size), wpAny (model prog w) A.in1 (eqBool items[i] x) (fun r s' => r = res i ∧ I (i + 1) s') E s
theorem con_loop (l : Addr) (x : Value) (N : Nat) (res : Nat → Bool) (I : Nat → Shared → Prop) (hl : ConI prog w A (fun e s' => R (.error e) s') l x N res I)
    (finT : ∀ i s, i < N → res i = true → I (i + 1) s → R (.ok (.ret (.bool true))) s) (finF : (∀ j, j < N → res j = false) → ∀ s, I N s → R (.ok (.ret (.bool false))) s) (k : Nat) :
    ∀ i : Nat, N - i = k → i ≤ N → (∀ j, j < i → res j = false) → ∀ s, I i s →
      wpAny (model prog w) A.in1 (Builtin.«list.__contains__.loop» ⟨[.ref l, x, rawInt i], []⟩) (GQ.FinOf prog w A R) (fun e s' => R (.error e) s') s := by
  induction k with
  | zero =>
    intro i hk hi hno s h
    obtain ⟨items, n, hl1, hs1, _⟩ := hl _ _ h
    have hi' : i = N := by omega
    have hR : R (.ok (.ret (.bool false))) s := finF (fun j hj => hno j (by omega)) s (hi' ▸ h)
    obtain ⟨hp, g, d, tk, os⟩ := s
    wp_walk using wpAny_loadPart' hl1
    have hi1 : items[((i : Nat) : Int).toNat]? = none := by simp; omega
    rw [hi1]
    wp_walk using wpAny_loadPart' hl1
    exact hR
  | succ k ih =>
    intro i hk hi hno s h
    obtain ⟨items, n, hl1, hs1, turn⟩ := hl _ _ h
    have hlt : i < items.size := by omega
    have ht := turn hlt
    obtain ⟨hp, g, d, tk, os⟩ := s
    wp_walk using wpAny_loadPart' hl1
    have hi1 : items[((i : Nat) : Int).toNat]? = some items[i] := by simp [hlt]
    have hc : ((i : Int) + 1) = ((i + 1 : Nat) : Int) := by omega
    rw [hi1]
    refine wpAny_bind (wpAny_mono ht (fun r s2 h2 => ?_) fun _ _ x => x)
    obtain ⟨hr, h2⟩ := h2
    subst hr
    cases hres : res i with
    | true =>
      have hR := finT i s2 (by omega) hres h2
      obtain ⟨hp2, g2, d2, tk2, os2⟩ := s2
      wp_walk
      exact hR
    | false =>
      have hrec := ih (i + 1) (by omega) (by omega) (fun j hj => by
        rcases Nat.lt_succ_iff_lt_or_eq.mp hj with q | q
        · exact hno j q
        · rw [q]; exact hres) s2 h2
      obtain ⟨hp2, g2, d2, tk2, os2⟩ := s2
      wp_walk
      rw [hc]
      exact ⟨plainId_quiet plain_contains_loop _, codeAny_builtin entry_contains_loop (by
        rw [Around.under_plainId plain_contains_loop _]
        exact hrec)⟩
theorem con_list (l : Addr) (x : Value) (N : Nat) (res : Nat → Bool) (I : Nat → Shared → Prop) (hl : ConI prog w A (fun e s' => R (.error e) s') l x N res I)
    (finT : ∀ i s, i < N → res i = true → I (i + 1) s → R (.ok (.ret (.bool true))) s) (finF : (∀ j, j < N → res j = false) → ∀ s, I N s → R (.ok (.ret (.bool false))) s) {s : Shared} (h : I 0 s) :
    wpAny (model prog w) A.in1 (Builtin.«list.__contains__» ⟨[.ref l, x], []⟩) (GQ.FinOf prog w A R) (fun e s' => R (.error e) s') s := by
  have hrec := con_loop (A := A) (R := R) l x N res I hl finT finF _ 0 rfl (Nat.zero_le _) (fun j hj => absurd hj (Nat.not_lt_zero j)) s h
  obtain ⟨hp, g, d, tk, os⟩ := s
  wp_walk
  exact ⟨plainId_quiet plain_contains_loop _, codeAny_builtin entry_contains_loop (by
    rw [Around.under_plainId plain_contains_loop _]
    exact hrec)⟩
end
section
variable {X : Cx} {CX : CXT} {C g : Addr} {n : Nat} {sp : Sp} {E : XK}
/-- == of an item z with the asked value, within a builtin -/
def EqT (X : Cx) (z x : V) (H : Hp) (K : Bool → Hp → Prop) : Prop := ∀ (pins : List (Addr × Obj)) (σ : L2.St) (s : Shared) (u v : Value), Inv X pins σ H s → RelV z u → RelV x v →
  wpAny (model X.prog X.w) X.A.in1 (eqBool u v) (fun r s' => ∃ H', Inv X pins σ H' s' ∧ K r H') X.xe s
theorem eqT_own (hs : PySem.W.findIn X.K (.ref C) "__eq__" = some (some (.ref g))) (hf : PySem.W.isFn X.K (.ref g) = true) (F : FnR X.prog X.w X.K X.mg X.base CX n g sp) (hr : Room (n + 1) X.A) (hx : Passes CX X E)
    {a b dx dy : Addr} {fs gs : List (Str × V)} {H : Hp} {K : Bool → Hp → Prop} (ha : H a = some (.ins C dx fs)) (hb : H b = some (.ins C dy gs)) (same : a = b → K true H)
    (q : sp [.ref a, .ref b] H (fun z H' => ∃ k, z = .bl k ∧ K k H') E) : EqT X (.ref a) (.ref b) H K := by
  intro pins σ s u v I ru rv
  cases (show u = Value.ref a from ru)
  cases (show v = Value.ref b from rv)
  by_cases hab : a = b
  · subst hab
    unfold eqBool
    refine wpAny_holding ?_
    refine wpAny_ite_split (fun _ => ?_) (fun hn => absurd (by simp) hn)
    exact wpAny_bind (wpAny_rule (wpAny_pure ⟨H, I, same rfl⟩))
  · obtain ⟨od, J⟩ := inst_of I ha
    obtain ⟨od', J'⟩ := inst_of I hb
    obtain ⟨m, hF⟩ := I.fr
    refine GQ.eqBool_refG hab ?_
    refine PySem.W.cmp_K (op := .Eq) (tb := .ref C) (hr.in1).units0 hF I.ok.mod.kin J J'.type (by unfold PySem.W.notFirst; simp) hs hf ?_
    refine wpAny_mono (run_g1 (us := [.ref a, .ref b]) (vs := [.ref a, .ref b]) F hr hx I (.cons rfl (.cons rfl .nil)) q) (fun w s' z => ?_) fun _ _ x => x
    obtain ⟨_, H', I', rz, k, rfl, qz⟩ := z
    cases (show w = Value.bool k from rz)
    exact ⟨k, rfl, H', I', qz⟩
/-- x in l, items compared one by one -/
def rInL (X : Cx) (neg : Bool) : R2 := fun x y H Q => ∃ (l : Addr) (xs : List V) (res : Nat → Bool) (P : Nat → Hp → Prop), y = .ref l ∧ P 0 H ∧ (∀ i H', P i H' → H' l = some (.lst xs)) ∧
  (∀ i z H', xs[i]? = some z → P i H' → EqT X z x H' (fun r H'' => r = res i ∧ P (i + 1) H'')) ∧
  (∀ i H', i < xs.length → res i = true → P (i + 1) H' → Q (.bl (if neg then false else true)) H') ∧ ((∀ j, j < xs.length → res j = false) → ∀ H', P xs.length H' → Q (.bl (if neg then true else false)) H')
theorem op_inL : OpR X (compareOp .In) (rInL X false) := by
  intro pins s σ H x y v u Q I rx ry h
  obtain ⟨l, xs, res, P, rfl, h0, hl, ht, hT, hF⟩ := h
  cases (show u = Value.ref l from ry)
  obtain ⟨_, its, n, _, e0⟩ := (show ObjOk X.prog X.w H s.heap l (.lst xs) from I.hok l _ (hl _ _ h0))
  refine wpAny_bind (wpAny_contains_slot ⟨_, e0, rfl⟩ PySem.F.slot_list_contains (GQ.call_here PySem.F.slot_list_contains ⟨_, e0, rfl⟩ PySem.F.entry_list_contains (PySem.F.args_list_contains_2 _ _) ?_))
  refine con_list l v xs.length res (fun i s' => ∃ H', Inv X pins σ H' s' ∧ P i H') (fun i s' hI => ?_) (fun i s' hi hr hI => ?_) (fun hno s' hI => ?_) ⟨H, I, h0⟩
  · obtain ⟨H', I', p⟩ := hI
    obtain ⟨_, its', n', r', e'⟩ := (show ObjOk X.prog X.w H' s'.heap l (.lst xs) from I'.hok l _ (hl _ _ p))
    have hsz : its'.toArray.size = xs.length := by rw [r'.length]; simp
    refine ⟨its'.toArray, n', e', hsz, fun h1 => ?_⟩
    have hi : i < xs.length := by omega
    obtain ⟨u, hu, ru⟩ := r'.get (i := i) (List.getElem?_eq_getElem hi)
    have eu : its'.toArray[i] = u := by
      obtain ⟨_, e2⟩ := List.getElem?_eq_some_iff.mp hu
      simpa using e2
    rw [eu]
    exact wpAny_mono (ht i _ H' (List.getElem?_eq_getElem hi) p pins σ s' u v I' ru rx) (fun r s2 ⟨H2, I2, er, p2⟩ => ⟨er, H2, I2, p2⟩) fun _ _ z => z
  · obtain ⟨H', I', p⟩ := hI
    exact wpAny_truthy_bool (wpAny_pure ⟨.bl true, H', I', rfl, hT i H' hi hr p⟩)
  · obtain ⟨H', I', p⟩ := hI
    exact wpAny_truthy_bool (wpAny_pure ⟨.bl false, H', I', rfl, hF hno H' p⟩)
theorem op_notInL : OpR X (compareOp .NotIn) (rInL X true) := by
  intro pins s σ H x y v u Q I rx ry h
  obtain ⟨l, xs, res, P, rfl, h0, hl, ht, hT, hF⟩ := h
  cases (show u = Value.ref l from ry)
  obtain ⟨_, its, n, _, e0⟩ := (show ObjOk X.prog X.w H s.heap l (.lst xs) from I.hok l _ (hl _ _ h0))
  refine wpAny_bind (wpAny_contains_slot ⟨_, e0, rfl⟩ PySem.F.slot_list_contains (GQ.call_here PySem.F.slot_list_contains ⟨_, e0, rfl⟩ PySem.F.entry_list_contains (PySem.F.args_list_contains_2 _ _) ?_))
  refine con_list l v xs.length res (fun i s' => ∃ H', Inv X pins σ H' s' ∧ P i H') (fun i s' hI => ?_) (fun i s' hi hr hI => ?_) (fun hno s' hI => ?_) ⟨H, I, h0⟩
  · obtain ⟨H', I', p⟩ := hI
    obtain ⟨_, its', n', r', e'⟩ := (show ObjOk X.prog X.w H' s'.heap l (.lst xs) from I'.hok l _ (hl _ _ p))
    have hsz : its'.toArray.size = xs.length := by rw [r'.length]; simp
    refine ⟨its'.toArray, n', e', hsz, fun h1 => ?_⟩
    have hi : i < xs.length := by omega
    obtain ⟨u, hu, ru⟩ := r'.get (i := i) (List.getElem?_eq_getElem hi)
    have eu : its'.toArray[i] = u := by
      obtain ⟨_, e2⟩ := List.getElem?_eq_some_iff.mp hu
      simpa using e2
    rw [eu]
    exact wpAny_mono (ht i _ H' (List.getElem?_eq_getElem hi) p pins σ s' u v I' ru rx) (fun r s2 ⟨H2, I2, er, p2⟩ => ⟨er, H2, I2, p2⟩) fun _ _ z => z
  · obtain ⟨H', I', p⟩ := hI
    exact wpAny_truthy_bool (wpAny_pure ⟨.bl false, H', I', rfl, hT i H' hi hr p⟩)
  · obtain ⟨H', I', p⟩ := hI
    exact wpAny_truthy_bool (wpAny_pure ⟨.bl true, H', I', rfl, hF hno H' p⟩)
/-- l.count(b), a list of bools -/
def eqBk (k : Bool) : Value → Bool
  | .bool b => b == k
  | _ => false
theorem bools_of_vals : ∀ {bs : List Bool} {us : List Value}, Vals (bs.map V.bl) us → us = bs.map Value.bool
  | [], _, .nil => rfl
  | b :: bs, _, .cons (b := u) r t => by
    rw [bools_of_vals t]
    cases (show u = Value.bool b from r)
    rfl
theorem mt_countB : MtR X "list.count" (fun x xs H Q => ∃ (p : Addr) (bs : List Bool) (k : Bool), x = .ref p ∧ xs = [.bl k] ∧ SqL X.K H p (bs.map V.bl) ∧ Q (.int (bs.count k : Nat)) H) := by
  intro pins s σ H x xs v us Q I rx rxs h
  obtain ⟨p, bs, k, rfl, rfl, hs, q⟩ := h
  cases rx
  obtain ⟨u, rfl, ru⟩ := rxs.one
  cases (show u = Value.bool k from ru)
  obtain ⟨its, rv, ⟨⟨cls, dd, data, sl⟩, n, ho, hc, hdn, hd⟩, hlen⟩ := I.list hs
  simp only at hc hd
  subst hc hd
  have hi := bools_of_vals rv
  subst hi
  refine call_meets PySem.F.slot_list_count ⟨_, ho, rfl⟩ PySem.F.entry_list_count (PySem.F.args_list_count_2 _ _)
    (SeqAt.list_countAt p _ n dd sl (.bool k) (eqBk k)) ⟨ho, fun y hy => ?_, ?_⟩
  · obtain ⟨b, _, rfl⟩ : ∃ b, b ∈ bs ∧ Value.bool b = y := by simpa using hy
    exact SeqAt.EqAt.bool_bool b k
  · have ec : ((bs.map Value.bool).toArray.toList.countP (eqBk k)) = bs.count k := by
      rw [List.toList_toArray, List.countP_map]
      rfl
    refine ⟨.int (bs.count k : Nat), H, I.tok _, ⟨s.toks, ?_⟩, q⟩
    show Value.int (((bs.map Value.bool).toArray.toList.countP (eqBk k) : Nat) : Int) s.toks = _
    rw [ec]
end
end Own

namespace Own
open PySem
open PySem.Sem (wp)
theorem meets_bool_tup (l : Addr) (items : Array Value) (hfit : (items.size : Int) < 2 ^ 63) :
    Meets (Builtin.«bool.__new__» ⟨[.type "bool", .ref l], []⟩) (fun _ R s => PyProof.Rows.IsTup s.heap l items ∧ R (.ok (.ret (.bool (!items.isEmpty)))) { s with toks := s.toks + 1 + 1 }) :=
  Meets.of_wp fun prog w A R s hs => by
    obtain ⟨hl, hs⟩ := hs
    obtain ⟨hp, g, d, tk, os⟩ := s
    have f1 := F.conv_sub_bool
    repeat (any_goals (first | assumption | (with_reducible refine PyProof.Rows.truthy_tuple hl hfit ?_) | wp_step))
    all_goals first | exact ⟨_, rfl, hs⟩ | exact hs | skip
open PySem PySem.Spec PyProof.Rows L2
section
variable {X : Cx}
theorem call_boolT : CallR X (.type "bool") (fun xs H Q => ∃ (a : Addr) (zs : List V), xs = [.ref a] ∧ SqT X.K H a zs ∧ Q (.bl (!zs.isEmpty)) H) := by
  intro pins s σ H xs us Q I r h
  obtain ⟨a, zs, rfl, hq, q⟩ := h
  obtain rfl := Vals.ref1 r
  obtain ⟨its, rv, pl, hz⟩ := I.tuple hq
  have hl := line63
  have hlen := rv.length
  refine call_bool_1 (meets_bool_tup _ _ (by simp only [List.size_toArray]; omega)) ⟨pl, rfl, ?_⟩
  exact ⟨.bl (!zs.isEmpty), H, I.tok _, by rw [isEmpty_of rv]; rfl, q⟩
end
/-- the truth of a value, as a test's reading that has a name -/
def tTru (K : PySem.W.Frag) (ta : TE) : TT := fun σ H Q => ta σ H fun x H' => ∃ k, TruV K x H' k ∧ Q k H'
/-! ### data of texts -/
theorem dp_strs {K : PySem.W.Frag} {H : Hp} : ∀ ns : List Str, DpAll K H (ns.map V.str) (ns.map PyData.str)
  | [] => .nil
  | n :: ns => .cons (.str n) (dp_strs ns)
theorem lay_strs : ∀ ns : List Str, (∀ n ∈ ns, PyData.strOk n = true) → PyData.canLayAll0 (ns.map PyData.str) = true
  | [], _ => rfl
  | n :: ns, h => by
    show (PyData.canLay0 (.str n) && PyData.canLayAll0 (ns.map PyData.str)) = true
    rw [lay_strs ns fun m hm => h m (List.mem_cons_of_mem _ hm)]
    simp [PyData.canLay0, h n List.mem_cons_self]
theorem depth_strs : ∀ ns : List Str, PyData.depthAll (ns.map PyData.str) ≤ 1
  | [] => by simp [PyData.depthAll]
  | n :: ns => by
    have := depth_strs ns
    simp only [List.map_cons, PyData.depthAll, PyData.depth]
    omega
theorem shaped_strs (ns : List Str) (h : ∀ n ∈ ns, PyData.strOk n = true) : SeqAt.shaped (.tuple (ns.map PyData.str)) = true := by
  unfold SeqAt.shaped
  have h1 : PyData.canLay0 (.tuple (ns.map PyData.str)) = true := lay_strs ns h
  have h2 : (PyData.tuple (ns.map PyData.str)).depth ≤ 64 := by
    have := depth_strs ns
    simp only [PyData.depth]
    omega
  rw [h1, decide_eq_true h2]
  rfl
theorem eqv_strsAll : ∀ ns ms : List Str, PyData.eqvAll (ns.map PyData.str) (ms.map PyData.str) = decide (ns = ms)
  | [], [] => by simp [PyData.eqvAll]
  | [], _ :: _ => by simp [PyData.eqvAll]
  | _ :: _, [] => by simp [PyData.eqvAll]
  | n :: ns, m :: ms => by
    simp only [List.map_cons, PyData.eqvAll, PyData.eqv, eqv_strsAll ns ms]
    by_cases e : n = m <;> simp [e]
theorem eqv_strs (ns ms : List Str) : PyData.eqv (.tuple (ns.map PyData.str)) (.tuple (ms.map PyData.str)) = decide (ns = ms) := by
  show PyData.eqvAll _ _ = _
  exact eqv_strsAll ns ms
end Own

namespace Pl
open PySem L2 Own TL PyProof
/-! ### names by the methods of texts -/
def SIGNS : Str := "abcdefghijklmnopqrstuvwxyz0123456789"
def low1 (c : Nat) : Nat := if 65 ≤ c ∧ c ≤ 90 then c + 32 else c
theorem lower_ascii : ∀ c, c < 128 → Unicode.lowerOf c = [low1 c] := by decide +kernel
theorem alnum_low : ∀ c, c < 128 → (Unicode.isAlnum c = true ∧ low1 c = c ↔ c ∈ tl SIGNS) := by decide +kernel
theorem signs_lt : ∀ c, c ∈ tl SIGNS → c < 128 := by decide +kernel
theorem flat_single : ∀ (l : List Nat), (l.map fun c => [c]).flatten = l
  | [] => rfl
  | a :: l => by rw [List.map_cons, List.flatten_cons, flat_single l]; rfl
theorem lower_of {s : Str} (h : Txt.isascii s = true) : (Txt.lower s).cps = (s.cps.map low1) := by
  unfold Txt.isascii at h
  rw [Array.all_eq_true] at h
  show placed s _ = _
  unfold placed
  have e : (s.cps.mapIdx fun i c => (Unicode.lowerAt s.cps i).toArray) = s.cps.map fun c => #[low1 c] := by
    apply Array.ext
    · simp
    · intro i h1 h2
      simp only [Array.getElem_mapIdx, Array.getElem_map]
      have hi : i < s.cps.size := by simpa using h1
      have hc := h i hi
      have hc : s.cps[i] < 128 := of_decide_eq_true hc
      unfold Unicode.lowerAt
      rw [Array.getElem?_eq_getElem hi]
      dsimp only
      rw [show (s.cps[i] == 0x3A3) = false from beq_eq_false_iff_ne.mpr (by omega)]
      simp only [Bool.false_and, Bool.false_eq_true, if_false]
      rw [lower_ascii _ hc]
  rw [e]
  apply Array.ext'
  rw [Array.toList_flatten, Array.toList_map, Array.toList_map, List.map_map]
  have := flat_single (s.cps.toList.map low1)
  rw [List.map_map] at this
  exact this
theorem str_ext {s t : Str} (h : s.cps = t.cps) : s = t := by
  cases s; cases t; cases h; rfl
/-- what is_name looks at, behind the length -/
theorem name_look {s : Str} (h0 : 0 < s.length) : (Txt.isascii s && (Txt.isalnum s && decide (s = Txt.lower s))) = (tl s).all fun c => decide (c ∈ tl SIGNS) := by
  cases ha : Txt.isascii s with
  | false =>
    refine Eq.symm ?_
    rw [Bool.false_and]
    cases e : (tl s).all fun c => decide (c ∈ tl SIGNS) with
    | false => rfl
    | true =>
      rw [List.all_eq_true] at e
      unfold Txt.isascii at ha
      have : (s.cps.all fun x => decide (x < 128)) = true := by
        rw [Array.all_eq_true']
        intro c hc
        have := e c (by simpa [tl] using hc)
        exact decide_eq_true (signs_lt c (of_decide_eq_true this))
      rw [this] at ha
      cases ha
  | true =>
    have lo := lower_of ha
    unfold Txt.isascii at ha
    rw [Array.all_eq_true'] at ha
    have l128 : ∀ c, c ∈ tl s → c < 128 := fun c hc => of_decide_eq_true (ha c (by simpa [tl] using hc))
    rw [Bool.true_and]
    have e1 : Txt.isalnum s = (tl s).all Unicode.isAlnum := by
      show (decide (s.length > 0) && s.cps.all Unicode.isAlnum) = _
      rw [decide_eq_true h0, Bool.true_and]
      simp [tl]
    have e2 : decide (s = Txt.lower s) = (tl s).all fun c => decide (low1 c = c) := by
      cases e : (tl s).all fun c => decide (low1 c = c) with
      | true =>
        rw [List.all_eq_true] at e
        refine decide_eq_true (str_ext ?_)
        rw [lo]
        apply Array.ext'
        rw [Array.toList_map]
        have : s.cps.toList.map low1 = s.cps.toList.map id := List.map_congr_left fun c hc => of_decide_eq_true (e c hc)
        rw [this, List.map_id]
      | false =>
        refine decide_eq_false fun q => ?_
        have z : s.cps.toList.map low1 = s.cps.toList := by
          have e3 : s.cps = (Txt.lower s).cps := congrArg (fun t : Str => t.cps) q
          rw [lo] at e3
          have e4 := congrArg Array.toList e3
          rw [Array.toList_map] at e4
          exact e4.symm
        have y : ((tl s).all fun c => decide (low1 c = c)) = true := by
          rw [List.all_eq_true]
          intro c hc
          refine decide_eq_true ?_
          have : ∀ (l : List Nat), l.map low1 = l → ∀ c ∈ l, low1 c = c := by
            intro l
            induction l with
            | nil => intro _ c hc; cases hc
            | cons a l ih =>
              intro e c hc
              rw [List.map_cons] at e
              injection e with e1 e2
              cases hc with
              | head => exact e1
              | tail _ hc => exact ih e2 c hc
          exact this _ z c hc
        rw [y] at e
        cases e
    rw [e1, e2]
    have : ∀ l : List Nat, (∀ c ∈ l, c < 128) → (l.all Unicode.isAlnum && l.all fun c => decide (low1 c = c)) = l.all fun c => decide (c ∈ tl SIGNS) := by
      intro l
      induction l with
      | nil => intro _; rfl
      | cons a l ih =>
        intro h
        rw [List.all_cons, List.all_cons, List.all_cons, ← ih fun c hc => h c (List.mem_cons_of_mem _ hc)]
        have := alnum_low a (h a List.mem_cons_self)
        have e : decide (a ∈ tl SIGNS) = (Unicode.isAlnum a && decide (low1 a = a)) := by
          rw [← Bool.decide_eq_true (b := Unicode.isAlnum a), ← Bool.decide_and]
          exact decide_eq_decide.mpr this.symm
        rw [e]
        cases Unicode.isAlnum a <;> cases decide (low1 a = a) <;> cases l.all Unicode.isAlnum <;> rfl
    exact this _ l128
end Pl

open PySem L2
namespace Own
theorem kit_self {K : PySem.W.Frag} {C : Addr} (ht : PySem.W.typeIn K (.ref C) = some (.type "type")) (hm : PySem.W.mroIn K C (.ref C) = some true) : PySem.W.kitOne K (.ref C) (.ref C) = some true := by
  unfold PySem.W.kitOne
  by_cases e : (Value.ref C == Value.ref C) = true
  · rw [if_pos e]
  · rw [if_neg e]
    unfold PySem.W.kitCls
    have hc : (PySem.W.clsIn K C).isSome = true := by
      unfold PySem.W.mroIn at hm
      cases e : PySem.W.clsIn K C with
      | none =>
        rw [e] at hm
        cases hm
      | some _ => rfl
    show (if _ then _ else _) = _
    rw [if_pos (by
      rw [hc, ht]
      decide)]
    exact hm
theorem kit_tyC {K : PySem.W.Frag} {C : Addr} {b : Bool} {T : String} (ht : PySem.W.typeIn K (.ref C) = some (.type "type")) (hm : PySem.W.mroIn K C (.type "object") = some b) (hs : PySem.W.subIn K (.type T) (.ref C) = some false) :
    PySem.W.kitOne K (.type T) (.ref C) = some false := by
  unfold PySem.W.kitOne
  rw [if_neg (by
    intro z
    exact absurd z (by show ¬ (false = true); decide))]
  unfold PySem.W.kitCls
  have hc : (PySem.W.clsIn K C).isSome = true := by
    unfold PySem.W.mroIn at hm
    cases e : PySem.W.clsIn K C with
    | none =>
      rw [e] at hm
      cases hm
    | some _ => rfl
  show (if _ then _ else _) = _
  rw [if_pos (by
    rw [hc, ht]
    decide)]
  exact hs
theorem kit_Cty {K : PySem.W.Frag} {C : Addr} {T : String} {b : Bool} (hk : PySem.W.kitMeta T = true) (hs : PySem.W.mroIn K C (.type T) = some b) :
    PySem.W.kitOne K (.ref C) (.type T) = some b := by
  unfold PySem.W.kitOne
  rw [if_neg (by
    intro z
    exact absurd z (by show ¬ (false = true); decide))]
  unfold PySem.W.kitCls
  show (if _ then _ else _) = _
  rw [if_pos hk]
  exact hs
theorem sub_strC {K : PySem.W.Frag} {C : Addr} : PySem.W.subIn K (.type "str") (.ref C) = some false := by
  rfl
end Own

/-! An error that is caught and kept: it is told as a thing of its own behind its suite. -/
namespace Own
open PySem PySem.Spec PyProof.Rows L2
/-- at a: an error of this class, its dict d, that flies no more -/
def kex (a : Addr) (cls : Value) (d : Option Addr) : HO := .ext fun h => ∃ (oe : Obj) (vs : Array Value), h.get? a = some oe ∧ Zc cls d oe ∧ oe.data = .fields vs
theorem kex_ok {P : Program} {w : World} {H : Hp} {h : Heap} {a : Addr} {cls : Value} {d : Option Addr} {oe : Obj} {vs : Array Value} (e : h.get? a = some oe) (z : Zc cls d oe) (hd : oe.data = .fields vs) : ObjOk P w H h a (kex a cls d) :=
  ⟨⟨oe, vs, e, z, hd⟩, ⟨oe, e⟩, fun _ _ ⟨o, v, q, r⟩ k => ⟨o, v, k o q, r⟩⟩
theorem kex_at {P : Program} {w : World} {H : Hp} {h : Heap} {a : Addr} {cls : Value} {d : Option Addr} (hok : HOk P w H h) (he : H a = some (kex a cls d)) : ∃ (oe : Obj) (vs : Array Value), h.get? a = some oe ∧ Zc cls d oe ∧ oe.data = .fields vs := by
  have x : ObjOk P w H h a (.ext fun h => ∃ (oe : Obj) (vs : Array Value), h.get? a = some oe ∧ Zc cls d oe ∧ oe.data = .fields vs) := hok a _ he
  exact x.1
section
variable {X : Cx} {pins : List (Addr × Obj)} {σ : L2.St} {H : Hp} {s : Shared}
/-- an untracked thing of ours, new since the entry, is tracked from here on -/
theorem inv_track {a : Addr} {oe : Obj} {vs : Array Value} {cls : Value} {d : Option Addr} (I : Inv X pins σ H s) (n0 : X.s_0.heap.get? a = none) (ha : s.heap.get? a = some oe) (hz : Zc cls d oe) (hd : oe.data = .fields vs) (na : H a = none)
    (nL : a ≠ X.env.locals) (np : ∀ p ∈ X.pn ++ pins, p.1 ≠ a) : Inv X pins σ (upd H a (kex a cls d)) s := by
  refine ⟨I.ok, I.os, I.bare, ⟨I.base.keep, I.base.slot, fun b o e n hx => ?_, I.base.there, fun b xs e => ?_, fun b o u e => ?_, fun b ps e => ?_⟩, I.loc, I.cell, ?_, fun x c e => ?_, fun p hp => ?_, ?_, I.len⟩
  · rw [upd_ne (fun z => by rw [z, n0] at e; cases e)]
    exact I.base.free b o e n hx
  · rw [upd_ne (ne_of_none (I.base.tups b xs e) na)]
    exact I.base.tups b xs e
  · rw [upd_ne (ne_of_none (I.base.frzs b o u e) na)]
    exact I.base.frzs b o u e
  · obtain ⟨m, q⟩ := I.base.tbls b ps e
    exact ⟨m, by rw [upd_ne (ne_of_none q na)]; exact q⟩
  · rw [upd_ne (Ne.symm nL)]
    exact I.free
  · have hc : c ≠ a := fun z => by
      obtain ⟨v, o, ho, hv⟩ := I.cell x c e
      rw [z, ha] at ho
      cases ho
      rw [hd] at hv
      cases hv
    rw [upd_ne hc]
    exact I.freeC x c e
  · obtain ⟨e, n, ne, nf, q⟩ := I.pin p hp
    exact ⟨e, by rw [upd_ne (np p hp)]; exact n, ne, nf, q⟩
  · exact I.hok.laidN (fun _ _ q => q) na (kex_ok ha hz hd)
/-- what the clause wishes: behind it the error is kept -/
def wKeep (K : PySem.W.Frag) (c : Value) (i : Nat) (ts : Addr → Value → Option Addr → TS) (Wout : WX) (D : Ends) : WX := fun cls d σ H =>
  ∃ b, PySem.W.exmOne K cls c = some b ∧ (b = true → ∀ a, H a = none → ts a cls d { nx := fun σ' H' => H' a = none ∧ D.nx (σ'.set i none) (upd H' a (kex a cls d)), rt := fun _ _ => False, bk := fun _ _ => False, ct := fun _ _ => False } (σ.set i (some (.ref a))) H) ∧
    (b = false → Wout cls d σ H)
/-- an error in the air over this frame, and all that is known of the rest -/
structure Air (X : Cx) (pins : List (Addr × Obj)) (σ : L2.St) (H : Hp) (a : Addr) (cls : Value) (d : Option Addr) (B : Heap) (r : Shared) : Prop where
  up : HandSPX.FlyingZ B (X.env :: X.outer) a (Zc cls d) r.heap
  rest : ∀ h, HandSPX.FlyingZ B (X.env :: X.outer) a (Zc cls d) h → r.heap.UpToSlots h → Inv X pins σ H { r with heap := h }
  out : ∀ (W : WX) h, HandSPX.HeldZ B (X.env :: X.outer) a (Zc cls d) X.env.locals h → r.heap.UpToSlots h → W cls d σ H → XE X W (.ref a) { r with heap := h }
  gone : H a = none
  fresh : X.s_0.heap.get? a = none
  apart : ∀ p ∈ X.pn ++ pins, p.1 ≠ a
section
variable {a : Addr} {cls : Value} {d : Option Addr} {B : Heap} {r : Shared}
theorem not_frame {l : List Env} {h : Heap} (f : HandSPX.FlyingZ B l a (Zc cls d) h) : a ∉ frs l := by
  intro m
  obtain ⟨oe, vs, e, _, q⟩ := f.there
  obtain ⟨_, o, e', no⟩ := f.2.2.1.mem m
  cases e.symm.trans e'
  exact no vs q
theorem Air.offFrame (L : Air X pins σ H a cls d B r) (hf : X.env.frame = some X.env.locals) : a ≠ X.env.locals ∧ a ∉ X.fs := by
  have no := not_frame L.up
  constructor
  · intro z
    exact no (List.mem_filterMap.mpr ⟨X.env, List.mem_cons_self, hf.trans (congrArg some z.symm)⟩)
  · intro m
    obtain ⟨e, q1, q2⟩ := List.mem_filterMap.mp m
    exact no (List.mem_filterMap.mpr ⟨e, List.mem_cons_of_mem _ q1, q2⟩)
/-- what left the body is seen in the air, once this frame has noted it -/
theorem air_of {W : WX} {u : Value} {s' : Shared} {E : Value → Shared → Prop} {Q : Unit → Shared → Prop} {pn : List (Addr × Obj)} {xe : Value → Shared → Prop} (ok : X.Ok) (hs : X.stack = X.env :: X.outer) (hf : X.env.frame = some X.env.locals) (hex : X.ex = [])
    (hpn : pn = X.pn ++ pins) (x : XE (X.tr pn xe) W u s') (k : ∀ σ H a cls d B r, u = .ref a → Air X pins σ H a cls d B r → W cls d σ H → Q () r) :
    wpAny (model X.prog X.w) X.A (noteFrame u X.env) (fun _ s2 => wpAny (model X.prog X.w) X.A (setFlight u none) Q E s2) E s' := by
  subst hpn
  obtain ⟨a, B, sI, _, σ, H, cls, d, rfl, J, nb, up, sky, na, os, ag, w⟩ := x
  have J := J.ofTry ok
  have sk : Sky B (X.env :: X.outer) a (Zc cls d) X.env.locals s'.heap := hs ▸ sky
  refine Sky.land Zc.steady (by rw [ok.frames, hs]) hf sk fun h fl uh => ?_
  have nI : sI.heap.get? a = none := by
    cases e : sI.heap.get? a with
    | none => rfl
    | some o => exact absurd ((nb a o e (hs.symm ▸ not_frame fl)).symm.trans fl.2.1) (by simp)
  refine k σ H a cls d B { s' with heap := h } rfl ⟨fl, fun h2 f2 u2 => J.landed nb f2.1 ((up.trans uh).trans u2) os ag, fun W h2 g2 u2 w2 => ?_, na, ?_, fun p hp z => ?_⟩ w
  · exact ⟨a, B, sI, _, σ, H, cls, d, rfl, J, nb, (up.trans uh).trans u2, .inr (.inr (hs.symm ▸ g2)), na, os, ag, w2⟩
  · cases e : X.s_0.heap.get? a with
    | none => rfl
    | some o =>
      obtain ⟨o', q⟩ := J.base.there a o e (by rw [hex]; simp)
      exact absurd (q.symm.trans nI) (by simp)
  · have q := (J.pin p hp).1
    rw [z, nI] at q
    cases q
end
variable {x n : Str} {c : Value} {i : Nat} {body suite : List Stmt} {b₀ : Stmt} {np pos pos' : Pos} {tb : WX → TS} {ts : Addr → Value → Option Addr → TS} {Wout : WX}
/-- the clause's class is looked up -/
theorem names_run {Z : Cx} {Q : Value → Shared → Prop} {E : Value → Shared → Prop} (hc : Names Z x c) (I : Inv Z pins σ H s) (q : Q c s) : wpAny (model Z.prog Z.w) Z.A (eval (.Name x np) Z.env) Q E s := by
  rcases hc with ⟨g, nd, m | ⟨m, v, nn⟩⟩
  · exact ld_glob I g m q nd
  · exact ld_blt I g m v q nn nd
/-- the clause looks at an error in the air: it is kept, or flies on -/
theorem clause_keep {a : Addr} {cls : Value} {d : Option Addr} {B : Heap} {r : Shared} {D : Ends} (L : Air X pins σ H a cls d B r) (ok : X.Ok) (hs : X.stack = X.env :: X.outer) (hf : X.env.frame = some X.env.locals) (hN : X.N.Nodup) (hi : X.N[i]? = some n)
    (hln : X.env.kindOf n = some .local) (hc : Names X x c) (tk : Takes X Wout) (w : wKeep X.K c i ts Wout D cls d σ H)
    (hsu : ∀ (a : Addr) (oe : Obj) (cls : Value) (d : Option Addr) (pn : List (Addr × Obj)), Zc cls d oe → (∃ vs, oe.data = .fields vs) → PSs (X.suite a ((a, oe) :: pn)) (b₀ :: suite) (ts a cls d)) :
    wpAny (model X.prog X.w) X.A (handleBy (.ref a) X.env [.ExceptHandler (some (.Name x np)) (some n) (b₀ :: suite) pos']) (SP X pins D) X.xe r := by
  obtain ⟨nL, nF⟩ := L.offFrame hf
  have look : ∀ h, HandSPX.FlyingZ B (X.env :: X.outer) a (Zc cls d) h → r.heap.UpToSlots h → ∃ oe, Zc cls d oe ∧ (∃ vs, oe.data = .fields vs) ∧ h.get? a = some oe ∧ Inv (X.suite a ((a, oe) :: (X.pn ++ pins))) [] σ H { r with heap := h } := fun h f u => by
    obtain ⟨oe, vs, e, z, q⟩ := f.there
    exact ⟨oe, z, ⟨vs, q⟩, e, (L.rest h f u).suite e q L.gone nL nF⟩
  obtain ⟨oe, z, ⟨vs, q⟩, e, S⟩ := look r.heap L.up (Heap.UpToSlots.refl _)
  obtain ⟨b, hb, yes, no⟩ := w
  have T : PySem.W.Looks (model X.prog X.w) r.heap (typeOf (.ref a)) cls := fun _ _ _ _ k g => wpAny_typeOf_ref (k _ _ e) (by rw [z.1]; exact g)
  refine wpAny_handleBy_cons (codeAny_handlers_test (names_run (Z := X.suite a ((a, oe) :: (X.pn ++ pins))) hc S ((PySem.W.exm_one (M := model X.prog X.w) S.kIn T hb).here ?_))) (by intro q; cases q)
  cases b with
  | true =>
    refine codeAny_handlers_suite_as (HandSPX.lands_againZ L.up fun h f u => ?_)
    obtain ⟨o2, z2, ⟨v2, q2⟩, e2, S2⟩ := look h f u
    refine store_ok (X := X.suite a ((a, o2) :: (X.pn ++ pins))) (v := .ref a) S2 hN hi (.inl hln) rfl (fun s5 S5 => ?_) (.inr hln)
    refine wpAny_mono ((hsu a o2 cls d _ z2 ⟨v2, q2⟩).run [] s5 _ H _ S5 (yes rfl a L.gone)) (fun f s6 g => ?_) (fun _ _ g => g.elim)
    cases f with
    | next =>
      obtain ⟨σ6, H6, S6, n6, g6⟩ := g
      obtain ⟨e6, _⟩ := S6.pin (a, o2) (List.mem_append_left _ List.mem_cons_self)
      exact gone_ok (inv_track (S6.unsuite ok) L.fresh e6 z2 q2 n6 nL L.apart) hN hi hln fun s7 J => ⟨_, _, J, g6⟩
    | brk => exact (show False by obtain ⟨_, _, _, g⟩ := g; exact g).elim
    | cont => exact (show False by obtain ⟨_, _, _, g⟩ := g; exact g).elim
    | ret u => exact (show False by obtain ⟨_, _, _, _, _, g⟩ := g; exact g).elim
  | false =>
    refine wpAny_handleBy_nil ?_
    obtain ⟨_, _, _, o3, v3, t, _, _, e3, _, q3, l3, _⟩ := L.up
    have go : wpAny (model X.prog X.w) X.A (setFlight (.ref a) X.env.frame) (fun _ s4 => wpAny (model X.prog X.w) X.A (throw (.ref a) : Sem Flow) (SP X pins D) X.xe s4) X.xe r := by
      rw [hf]
      exact HandSPX.setFlight_upZ L.up fun h g u => wpAny_throw (tk _ _ (L.out Wout h g u (no rfl)))
    unfold PySem.passOn
    refine wpAny_bind (wpAny_field e3 q3 l3 ?_)
    rw [if_neg (by simp : ¬ (Value.ref t == Value.none) = true)]
    first
      | exact wpAny_bind (wpAny_pure (wpAny_bind go))
      | exact wpAny_bind go
/-- try: .. except C as n: (a suite that keeps n) -/
theorem ps_try_keep (hs : X.stack = X.env :: X.outer) (hf : X.env.frame = some X.env.locals) (hex : X.ex = []) (hN : X.N.Nodup) (hi : X.N[i]? = some n) (hln : X.env.kindOf n = some .local) (hc : Names X x c) (tk : Takes X Wout)
    (hb : ∀ (W : WX) (pn : List (Addr × Obj)) (xe : Value → Shared → Prop), Takes (X.tr pn xe) W → PassesOwn (model X.prog X.w) X.A X.env xe → PSs (X.tr pn xe) body (tb W))
    (hsu : ∀ (a : Addr) (oe : Obj) (cls : Value) (d : Option Addr) (pn : List (Addr × Obj)), Zc cls d oe → (∃ vs, oe.data = .fields vs) → PSs (X.suite a ((a, oe) :: pn)) (b₀ :: suite) (ts a cls d)) :
    PS X (.Try body [.ExceptHandler (some (.Name x np)) (some n) (b₀ :: suite) pos'] [] [] pos) (fun D σ H => tb (wKeep X.K c i ts Wout D) D σ H) := by
  constructor
  intro pins s σ H D I h
  have ok := I.ok
  have run := (hb (wKeep X.K c i ts Wout D) (X.pn ++ pins) (fun u s₁ => wpAny (model X.prog X.w) X.A (noteFrame u X.env) (fun _ s₂ => wpAny (model X.prog X.w) X.A (setFlight u none) (fun _ s₃ =>
    wpAny (model X.prog X.w) X.A (handleBy u X.env [.ExceptHandler (some (.Name x np)) (some n) (b₀ :: suite) pos']) (SP X pins D) X.xe s₃) X.xe s₂) X.xe s₁)
    (fun u s' g => air_of ok hs hf hex rfl g fun _ _ a _ _ _ r e L w => by rw [e]; exact clause_keep L ok hs hf hN hi hln hc tk w hsu) PassesOwn.looking).run [] s σ H D (I.toTry _) h
  refine wpAny_Try_except (wpAny_mono run (fun f s1 g => ?_) fun _ _ g => g)
  cases f with
  | next =>
    obtain ⟨_, _, J, q⟩ := g
    exact wpAny_execs_nil ⟨_, _, J.ofTry ok, q⟩
  | ret u =>
    obtain ⟨_, _, _, J, r, q⟩ := g
    exact ⟨_, _, _, J.ofTry ok, r, q⟩
  | brk =>
    obtain ⟨_, _, J, q⟩ := g
    exact ⟨_, _, J.ofTry ok, q⟩
  | cont =>
    obtain ⟨_, _, J, q⟩ := g
    exact ⟨_, _, J.ofTry ok, q⟩
end
/-! ### what is asked of a kept error -/
section
variable {X : Cx}
/-- e.f, e a kept error of the class at C -/
def tKxf (C : Addr) (f : Str) (te : TE) : TE := fun σ H Q => te σ H fun x H1 => ∃ (a dd : Addr) (fs : List (Str × V)) (v : V), x = .ref a ∧ H1 a = some (kex a (.ref C) (some dd)) ∧ H1 dd = some (.xd fs) ∧ fs.lookup f = some v ∧ Q v H1
theorem pe_kxf {C : Addr} {e : Expr} {te : TE} {pos : Pos} {n : Str} (T : XfC X.K C) (hno : PySem.W.findIn X.K (.ref C) n = some none) (he : PE X e te) (hb : attributeBase e n X.env (eval e X.env) = eval e X.env := by rfl) :
    PE X (.Attribute e n pos) (tKxf C n te) := by
  refine ⟨fun pins s σ H Q I h => ?_⟩
  refine attr_of hb (thn (he.run pins s σ H _ I h) fun u s1 hh => ?_)
  obtain ⟨x, H1, I1, rx, a, dd, fs, v, ex, ek, ea, l, q⟩ := hh
  subst ex
  obtain rfl : u = Value.ref a := rx
  obtain ⟨oe, vs, ha, hz, hd⟩ := kex_at I1.hok ek
  have hx : ObjOk X.prog X.w H1 s1.heap dd (.xd fs) := I1.hok dd _ ea
  obtain ⟨mA, hns, hr⟩ := hx
  obtain ⟨od, ho, hl⟩ := lookIn_ns hns
  obtain ⟨u, hu, ru⟩ := RelO.some_of (v := v) (o := mA n) (by rw [← l]; exact hr n)
  have J : PySem.W.InstAt s1.heap a oe C (some od) := ⟨ha, hz.1, by unfold PySem.W.notCls; rw [hd] <;> rfl, by rw [hz.2]; exact ho⟩
  exact HandSPX.exc_get I1.kIn J T.ga T.gg T.exC (PySem.W.findObj_own T.hdC hno rfl (by rw [hl, hu])) (handed_of ru) ⟨v, H1, I1.tok _, ru, q⟩
end
end Own

/-! isinstance of a kept error. -/
namespace Own
open PySem PySem.Spec PySem.Calls PyProof.Rows PySem.W L2
section
variable {prog : Program} {w : World} {A : Around} {E : Value → Shared → Prop} {K : Frag} {x D : Addr} {ox : Obj} {od : Option Obj}
theorem err_find (T : ExcC K D) : findObj K D od "__class__" = some (.bind (.builtin "getset_descriptor.__get__") (.builtin "object.__class__")) := by
  have hc : (clsIn K D).isSome = true := by
    obtain ⟨cd, e, _⟩ := any_some T.hd
    rw [e]
    rfl
  cases od with
  | none => exact findObj_dataN hc T.ha T.hn T.ht
  | some o => exact findObj_data hc T.ha T.hn T.ht
/-- an error is asked for its class -/
theorem err_class {Q : Option Value → Shared → Prop} {h : Heap} {g : Array GenState} {d : Drawn} {t : Nat} {os : OsState} (T : ExcC K D) (X : K.In h) (I : InstAt h x ox D od) (q : Q (some (.ref D)) ⟨h, g, d, t + 1, os⟩) :
    wpAny (model prog w) A (getAttr? (.ref x) "__class__") Q E ⟨h, g, d, t, os⟩ := by
  have ty := I.type (M := model prog w)
  have nb : (Value.builtin "BaseException.__getattribute__" == Value.builtin "object.__getattribute__") = false := by decide +kernel
  have inner : wpAny (model prog w) A (call (.builtin "BaseException.__getattribute__") [.ref x, .str "__class__" t]) (fun v s' => v = .ref D ∧ s' = (⟨h, g, d, t + 1, os⟩ : Shared)) (fun _ _ => False) ⟨h, g, d, t + 1, os⟩ := by
    refine wpAny_call (codeAny_call_builtin PySem.F.excAttr_ValueError.ga.plain PySem.F.entry_bexc_ga ?_)
    refine @check_slot (model prog w) _ _ ⟨h, g, d, t + 1, os⟩ "BaseException.__getattribute__" "BaseException" "__getattribute__" (.ref x) [.str "__class__" t] [] _ (by decide +kernel) (by decide +kernel) (ty.andThen (looks_subIn X T.hs)) (PySem.F.args_bexc_ga _ _) ?_
    unfold Builtin.«object.__getattribute__»
    refine wpAny_bind (wpAny_of_eq (a := ((Value.ref x : Value), [Value.str "__class__" t])) (by simp only [slotArgs]; rfl) (wpAny_bind (wpAny_pure (wpAny_bind (ty.at (wpAny_bind ((looks_find X I (err_find T)).at ?_)))))))
    show wpAny _ _ (holding [Value.builtin "object.__class__"] (call (.builtin "getset_descriptor.__get__") [.builtin "object.__class__", .ref x, .ref D]) >>= ret) _ _ _
    refine wpAny_bind (wpAny_holding (wpAny_call (class_get (s := ⟨h, g, d, t + 1, os⟩) X I T.hm (wpAny_pure ?_))))
    exact ⟨rfl, rfl⟩
  unfold getAttr? getAttrBy? getAttrBy
  refine wpAny_bind (wpAny_mkText (wpAny_bind (wpAny_attempt (wpAny_holding (wpAny_bind (ty.at (wpAny_bind ((looks_findIn X T.hg).at ?_))))))))
  show wpAny _ _ (if (onTheHeap (Value.ref D) && Value.builtin "BaseException.__getattribute__" == Value.builtin "object.__getattribute__") = true then _ else _) _ _ _
  rw [if_neg (by rw [nb]; simp)]
  unfold getAttrByItsOwn hookBefore
  refine wpAny_bind ?_
  rw [if_pos (show onTheHeap (Value.ref D) = true from rfl)]
  refine (looks_findIn X T.hk).at (wpAny_bind (wpAny_attempt (wpAny_holding ?_)))
  unfold callGetattribute
  rw [if_neg (show ¬ (false && onTheHeap (Value.builtin "BaseException.__getattribute__")) = true by simp)]
  unfold boundAndCalled
  rw [PySem.F.excAttr_ValueError.ga.bind (.ref x)]
  refine wpAny_bind (wpAny_pure (wpAny_mono inner (fun v s' z => ?_) fun _ _ z => z.elim))
  obtain ⟨rfl, rfl⟩ := z
  show wpAny _ _ (handedOut (.ref D)) _ _ _
  rw [handedOut_of (v := .ref D) rfl]
  first
    | exact wpAny_pure (wpAny_bind (wpAny_pure (wpAny_pure q)))
    | exact wpAny_pure (wpAny_pure q)
    | exact wpAny_pure q
theorem err_kit (T : ExcC K D) : KitX K (.ref x) (.ref D) (fun h => InstAt h x ox D od) := by
  obtain ⟨cd, e, _⟩ := any_some T.hd
  unfold clsIn at e
  split at e
  · rename_i oc dd c sl lk
    exact ⟨fun _ _ _ I => I.type, fun _ _ X _ A' Q' E' s' k q => by
        unfold isType loadHead
        exact wpAny_bind (wpAny_loadPart (k _ _ (X _ _ lk)) (wpAny_pure q)), fun h tp dd its n sl X htp => by
        by_cases z : D = tp
        · subst z
          cases (X _ _ lk).symm.trans htp
        · exact Bool.eq_false_iff.mpr fun q => z (Value.ref.inj (beq_iff_eq.mp q)), fun {prog w A E Q s} X I q => by
        obtain ⟨h, g, d, t, os⟩ := s
        exact err_class T X I q⟩
  · cases e
end
/-- isinstance(e, C), e a kept error -/
def rIsK (K : PySem.W.Frag) : List V → Hp → VK → Prop := fun xs H Q => ∃ (a D : Addr) (d : Option Addr) (c : V) (cv : Value) (b : Bool), xs = [.ref a, c] ∧ H a = some (kex a (.ref D) d) ∧ (∀ dd, d = some dd → ∃ fs, H dd = some (.xd fs)) ∧ ExcC K D ∧ ClsV c cv ∧ PySem.W.kitOne K (.ref D) cv = some b ∧ Q (.bl b) H
/-- the error's object as an instance -/
theorem kex_inst {X : Cx} {pins : List (Addr × Obj)} {σ : L2.St} {H : Hp} {s : Shared} {a D : Addr} {d : Option Addr} (I : L2.Inv X pins σ H s) (ha : H a = some (kex a (.ref D) d)) (hd : ∀ dd, d = some dd → ∃ fs, H dd = some (.xd fs)) :
    ∃ ox od, InstAt s.heap a ox D od := by
  obtain ⟨oe, vs, e, z, q⟩ := kex_at I.hok ha
  have nc : PySem.W.notCls oe = true := by
    unfold PySem.W.notCls
    rw [q] <;> rfl
  cases d with
  | none => exact ⟨oe, none, e, z.1, nc, by rw [z.2]; trivial⟩
  | some dd =>
    obtain ⟨fs, h⟩ := hd dd rfl
    have hx : ObjOk X.prog X.w H s.heap dd (.xd fs) := I.hok dd _ h
    obtain ⟨mA, hns, _⟩ := hx
    obtain ⟨od, ho, _⟩ := lookIn_ns hns
    exact ⟨oe, some od, e, z.1, nc, by rw [z.2]; exact ho⟩
theorem call_isK {X : Cx} : CallR X (.builtin "isinstance") (rIsK X.K) := by
  intro pins s σ H xs us Q I r h
  obtain ⟨a, D, d, c, cv, b, rfl, ha, hd, T, hc, e, q⟩ := h
  cases r with
  | cons rx rr =>
    cases rr with
    | cons rt rr =>
      cases rr
      cases rx
      obtain ⟨ox, od, J⟩ := kex_inst I ha hd
      cases hc
      all_goals cases rt
      all_goals exact kia_one (err_kit (ox := ox) (od := od) T) I.kIn J e (fun z => nomatch z) fun tk => ⟨.bl b, H, I.kept (t' := tk) fun _ _ z => z, rfl, q⟩
end Own

/-! Defs whose promise holds while no repr is under way. -/
namespace Own
open PySem PySem.Spec PyProof.Rows L2
def FnG (P : Program) (w : World) (K : PySem.W.Frag) (mg : Str → Option Value) (base : Heap) (CX : CXT) (k : Nat) (f : Addr) (sp : Sp) : Prop :=
  ∀ (A : Around) (outer : List Env) (s : Shared) (H : Hp) (us : List Value) (vs : List V) (Q : VK) (E : XK), Room k A → A.guards = some [] → Env0 P w K mg base A outer s H → Vals vs us → sp vs H Q E →
    codeAny (model P w) A (.call (.ref f) ⟨us, []⟩) (CR CX outer P w H s Q E) s
section
variable {P : Program} {w : World} {K : PySem.W.Frag} {mg : Str → Option Value} {base : Heap} {CX : CXT} {k : Nat} {f : Addr} {fd : FuncData} {ps N : List Str} {sp : Sp} {x qual : Str} {st : Stmt}
theorem FnG.of_R (F : FnR P w K mg base CX k f sp) : FnG P w K mg base CX k f sp := fun A outer s H us vs Q E hr _ => F A outer s H us vs Q E hr
theorem FnG.mono {j : Nat} (F : FnG P w K mg base CX j f sp) (h : j ≤ k) : FnG P w K mg base CX k f sp := fun A outer s H us vs Q E hr => F A outer s H us vs Q E (hr.mono h)
theorem fnG_of (F : Fun K x qual st f fd) (S : FnScope N ps (defScope st)) (hb : L2.Binds K fd ps []) (len : ∀ vs H Q E, sp vs H Q E → vs.length = ps.length)
    (body : ∀ (cdv : Value) (A : Around) (outer : List Env) (s : Shared) (H : Hp) (vs : List V) (Q : VK) (E : XK), Room k (A.deeper (envOfC qual (defScope st) s.heap.objs.size f cdv)) → (A.deeper (envOfC qual (defScope st) s.heap.objs.size f cdv)).guards = some [] → sp vs H Q E →
      ∃ t, PSs (cxOf CX P w K mg base N qual (defScope st) f cdv A outer s H E) (defBody st) t ∧ t { nx := fun _ H' => Q .non H', rt := Q } (L2.start N vs) H) :
    FnG P w K mg base CX (k + 1) f sp := by
  intro A outer s H us vs Q E hr hg e0 r h
  have hl := len _ _ _ _ h
  have b := hb s us (e0.mod.kin.keeps fun b o e => (e0.bs b o e).1) (by rw [List.append_nil, ← r.length]; exact hl)
  rw [List.append_nil] at b
  obtain ⟨oc, od, kV, doc, pm, an, cdv, ct, osl, rfl, lk, hcd⟩ := F.ex
  exact LamX.run_ofS lk hcd S hr e0 b r hl fun hr' => body cdv A outer s H vs Q E hr' hg h
end
section
variable {X : Cx} {CX : CXT} {k : Nat} {f : Addr} {sp : Sp} {E : XK}
/-- the def at f, called with values -/
theorem callG (F : FnG X.prog X.w X.K X.mg X.base CX k f sp) (hr : Room k X.A) (hg : X.A.guards = some []) (hx : Passes CX X E) : CallR X (.ref f) (fun vs H Q => sp vs H Q E) := by
  intro pins s σ H vs us Q I r h
  refine wpAny_call (codeAny_mono (F X.A X.stack s H us vs Q E hr hg I.env0 r h) fun r s' hq => ?_)
  cases r with
  | error e => exact hx pins σ H s e s' I hq
  | ok fl =>
    cases fl with
    | ret u => exact I.after hq
    | next => exact hq.elim
    | brk => exact hq.elim
    | cont => exact hq.elim
/-- a global def, by its promise as a CallR -/
theorem pe_callRef {r : List V → Hp → VK → Prop} {x : Str} {e : Expr} {es : List Expr} {t : TA} {p pos : Pos} (hc : CallR X (.ref f) r) (hg : Gl X x) (hm : X.mg x = some (.ref f)) (hk : PySem.W.keepIn X.K (.ref f) = true) (ha : PA X (e :: es) t)
    (hdb : (x == ("__debug__" : Str)) = false := by decide) (he : starEach (e :: es) X.env = (false, eval e X.env) :: starEach es X.env := by rfl) (hpl : (backTo pos (starEach es X.env)).any (·.1) = false := by rfl) :
    PE X (.Call (.Name x p) (e :: es) [] pos) (fun σ H Q => t σ H fun vs H1 => r vs H1 Q) :=
  ⟨fun pins s σ H _ I h => wpAny_Call_Name_kw (ld_glob I hg hm (PySem.W.callWith_K (h₀ := X.base) I.ok.mod.kin hk (thn (ha.run pos pins s σ H _ I h) fun _ s1 ⟨_, _, I1, rv, q⟩ => ⟨I1.kIn, hc pins s1 σ _ _ _ _ I1 rv q⟩) he hpl) hdb)⟩
end
end Own

/-! repr of nested things, own ones among them. -/
namespace Own
open PySem PySem.Spec PySem.Calls PyProof.Rows L2
/-- repr tells t of x, whatever stands under way but the objects of as -/
def RU (X : Cx) (as : List Addr) (k : Nat) (H : Hp) (x : V) (t : Str) : Prop :=
  ∀ (base : Nat) (A : Around) (g : List Code) (pins : List (Addr × Obj)) (σ : L2.St) (H1 : Hp) (s : Shared) (u : Value) (Q : Str → Shared → Prop) (E : Value → Shared → Prop), base + t.length ≤ sizeLine → Room k A → A.frames = X.A.frames → A.guards = some g → (∀ b ∈ as, Clear g b) →
    Same H H1 → Inv X pins σ H1 s → RelV x u → (∀ H2 s', Same H1 H2 → Inv X pins σ H2 s' → Q t s') → wpAny (model X.prog X.w) A (pyReprUnder base u) Q E s
inductive RUs (X : Cx) (as : List Addr) (k : Nat) (H : Hp) : List V → List Str → Prop
  | nil : RUs X as k H [] []
  | cons {x : V} {t : Str} {xs : List V} {ts : List Str} : RU X as k H x t → RUs X as k H xs ts → RUs X as k H (x :: xs) (t :: ts)
theorem room_guard {k : Nat} {A : Around} {id : String} {args : Args} (h : Room (k + 1) A) (hw : (Code.builtin id args).weight ≤ 1) (hu : (Code.builtin id args).cUnits ≤ 1) : Room k (A.under (.builtin id args)) :=
  ⟨h.hd, by
    have := h.dp
    show A.depth + (Code.builtin id args).weight + 3 * k + 5 < recursionLimit
    omega, by
    have := h.un
    show A.units + (Code.builtin id args).cUnits + 16 * k + 200 < cLine
    omega⟩
section
variable {X : Cx} {as : List Addr} {k : Nat} {H : Hp}
theorem RUs.len : ∀ {xs : List V} {ts : List Str}, RUs X as k H xs ts → ts.length = xs.length
  | _, _, .nil => rfl
  | _, _, .cons _ r => congrArg (· + 1) r.len
theorem RU.leaf {x : V} {t : Str} (h : ∀ u, RelV x u → ReprIs X.prog X.w u t) : RU X as k H x t := fun base A _ _ _ H1 s u Q E hz _ _ _ _ _ I r q => h u r base hz A E s Q fun _ => q H1 _ (Same.refl _) (I.tok _)
theorem RU.more {as' : List Addr} {k' : Nat} {x : V} {t : Str} (h : RU X as k H x t) (hs : ∀ b ∈ as, b ∈ as') (hd : k ≤ k') : RU X as' k' H x t :=
  fun base A g pins σ H1 s u Q E hz hr hf hg hc => h base A g pins σ H1 s u Q E hz (hr.mono hd) hf hg (fun b hb => hc b (hs b hb))
theorem RU.mono {H' : Hp} {x : V} {t : Str} (h : RU X as k H x t) (hs : Same H H') : RU X as k H' x t :=
  fun base A g pins σ H1 s u Q E hz hr hf hg hc s1 => h base A g pins σ H1 s u Q E hz hr hf hg hc (hs.trans s1)
theorem RU.non : RU X as k H .non "None" := RU.leaf fun u r => by
  cases (show u = Value.none from r)
  exact ReprIs.none
theorem RU.bl (b : Bool) : RU X as k H (.bl b) (if b then "True" else "False") := RU.leaf fun u r => by
  cases (show u = Value.bool b from r)
  exact ReprIs.bool b
theorem RU.int (i : Int) (h : i.natAbs.log2 < 1920) : RU X as k H (.int i) (toString i) := RU.leaf fun u r => by
  obtain ⟨tk, rfl⟩ := (show ∃ tk, u = Value.int i tk from r)
  exact ReprIs.int tk h
theorem RU.str (y : Str) (h : (reprText y).length ≤ sizeLine) : RU X as k H (.str y) (reprText y) := RU.leaf fun u r => by
  obtain ⟨tk, rfl⟩ := (show ∃ tk, u = Value.str y tk from r)
  exact ReprIs.str y tk h
/-! ### tuples -/
theorem ru_fold {A : Around} {g : List Code} {E : Value → Shared → Prop} {pins : List (Addr × Obj)} {σ : L2.St} (hr : Room k A) (hf : A.frames = X.A.frames) (hg : A.guards = some g) (hc : ∀ b ∈ as, Clear g b) {xs : List V} {ts : List Str} (h : RUs X as k H xs ts) :
    ∀ (us : List Value) (acc : Array Str) (n : Nat) (H1 : Hp) (s : Shared) (Q : (Array Str × Nat) → Shared → Prop), Vals xs us → n + piled ts ≤ sizeLine → Same H H1 → Inv X pins σ H1 s →
      (∀ H2 s', Same H1 H2 → Inv X pins σ H2 s' → Q (acc ++ ts.toArray, n + piled ts) s') → wpAny (model X.prog X.w) A (forIn us ((acc, n) : Array Str × Nat) tupBody) Q E s := by
  induction h with
  | nil =>
    intro us acc n H1 s Q r hn s1 I q
    cases r
    have z := q H1 s (Same.refl _) I
    rw [List.forIn_nil]
    exact wpAny_pure (by simpa [piled] using z)
  | cons hx h ih =>
    rename_i x t xs ts
    intro us acc n H1 s Q r hn s1 I q
    cases r with
    | cons rx r =>
      rename_i u us
      rw [piled_cons] at hn
      rw [List.forIn_cons]
      refine wpAny_bind (wpAny_bind (hx (n + 1) A g pins σ H1 s u _ E (by omega) hr hf hg hc s1 I rx fun H2 s' s2 I2 => wpAny_pure ?_))
      refine ih us (acc.push t) (n + (t.length + 2)) H2 s' Q r (by omega) (s1.trans s2) I2 fun H3 s'' s3 I3 => ?_
      have z := q H3 s'' (s2.trans s3) I3
      rw [show n + piled (t :: ts) = n + (t.length + 2) + piled ts by rw [piled_cons]; omega] at z
      simpa using z
theorem frames_tup (args : Args) : (Code.builtin "tuple.__repr__" args).frames = 0 := by first | rfl | simp [Code.frames, Code.isFrame]
theorem weight_tup (args : Args) : (Code.builtin "tuple.__repr__" args).weight ≤ 1 := by
  have h2 : (Code.builtin "tuple.__repr__" args).isCreation = false := by first | rfl | simp [Code.isCreation]
  have h3 : (Code.builtin "tuple.__repr__" args).isCaller = false := by first | rfl | simp [Code.isCaller]
  unfold Code.weight
  rw [frames_tup, h2, h3]
  generalize (Code.builtin "tuple.__repr__" args).isGuard = b
  cases b <;> decide
theorem units_tup (args : Args) : (Code.builtin "tuple.__repr__" args).cUnits ≤ 1 := by
  show 1 + 3 * (Code.builtin "tuple.__repr__" args).frames ≤ 1
  rw [frames_tup]
  decide
theorem frames_tupU (args : Args) : (Code.builtin "tuple.__repr__.under" args).frames = 0 := by first | rfl | simp [Code.frames, Code.isFrame]
theorem weight_tupU (args : Args) : (Code.builtin "tuple.__repr__.under" args).weight ≤ 1 := by
  have h2 : (Code.builtin "tuple.__repr__.under" args).isCreation = false := by first | rfl | simp [Code.isCreation]
  have h3 : (Code.builtin "tuple.__repr__.under" args).isCaller = false := by first | rfl | simp [Code.isCaller]
  unfold Code.weight
  rw [frames_tupU, h2, h3]
  generalize (Code.builtin "tuple.__repr__.under" args).isGuard = b
  cases b <;> decide
theorem units_tupU (args : Args) : (Code.builtin "tuple.__repr__.under" args).cUnits ≤ 1 := by
  show 1 + 3 * (Code.builtin "tuple.__repr__.under" args).frames ≤ 1
  rw [frames_tupU]
  decide
theorem frames_lst (args : Args) : (Code.builtin "list.__repr__.loop" args).frames = 0 := by first | rfl | simp [Code.frames, Code.isFrame]
theorem weight_lst (args : Args) : (Code.builtin "list.__repr__.loop" args).weight ≤ 1 := by
  have h2 : (Code.builtin "list.__repr__.loop" args).isCreation = false := by first | rfl | simp [Code.isCreation]
  have h3 : (Code.builtin "list.__repr__.loop" args).isCaller = false := by first | rfl | simp [Code.isCaller]
  unfold Code.weight
  rw [frames_lst, h2, h3]
  generalize (Code.builtin "list.__repr__.loop" args).isGuard = b
  cases b <;> decide
theorem units_lst (args : Args) : (Code.builtin "list.__repr__.loop" args).cUnits ≤ 1 := by
  show 1 + 3 * (Code.builtin "list.__repr__.loop" args).frames ≤ 1
  rw [frames_lst]
  decide
/-- the own work of a tuple's repr -/
theorem ru_tupBody {a : Addr} {xs : List V} {ts : List Str} {A : Around} {g : List Code} {pins : List (Addr × Obj)} {σ : L2.St} {H1 : Hp} {s : Shared} {base : Nat} {id : String} {rest : List Value} {R : Result → Shared → Prop}
    (ha : H a = some (.tup xs)) (hT : RUs X as k H xs ts) (hna : a ∉ as) (hcg : (Code.builtin id ⟨.ref a :: rest, []⟩).isGuard = true) (hw : (Code.builtin id ⟨.ref a :: rest, []⟩).weight ≤ 1) (hcu : (Code.builtin id ⟨.ref a :: rest, []⟩).cUnits ≤ 1)
    (hr : Room (k + 1) A) (hf : A.frames = X.A.frames) (hfu : (A.under (.builtin id ⟨.ref a :: rest, []⟩)).frames = A.frames) (hg : A.guards = some g) (hc : ∀ b ∈ a :: as, Clear g b) (s1 : Same H H1) (I : Inv X pins σ H1 s) (hz : base + (tupleText ts).length ≤ sizeLine)
    (q : ∀ H2 s' u, Same H1 H2 → Inv X pins σ H2 s' → R (.ok (.ret (.str (tupleText ts) u))) s') :
    wpOwn (model X.prog X.w) A (.builtin id ⟨.ref a :: rest, []⟩) (Builtin.tupleReprAt base ⟨[.ref a], []⟩) (fun fin s' => match fin with | .done f => R (.ok f) s' | .again c' => c'.quiet = true ∧ codeAny (model X.prog X.w) A c' R s') (fun e s' => R (.error e) s') s := by
  obtain ⟨_, its, rv, o, ho, _, n, hd⟩ := I.hok a _ (s1 _ _ ha)
  have hl := hT.len
  have hlv := rv.length
  have pl := piled_le_tupleText ts
  rw [tuple_repr_tree, tupleReprUnderWay_eq]
  refine wpOwn_bind (wpOwn_stackTailAny hg (tupGuardF_off _) (tupGuardF_pos _) ?_)
  have none : (g.any fun c => tupGuardF (.ref a) (c, default)) = false := List.any_eq_false.mpr fun c m => by
    rw [tupGuardF_of_clear (hc a List.mem_cons_self) c m]
    simp
  rw [none]
  refine wpOwn_of_wpAny ?_
  show wpAny _ _ (tupleReprRest base (.ref a)) _ _ s
  unfold tupleReprRest Builtin.Tuple.tupleItemsOf
  refine wpAny_bind (wpAny_bind (wpAny_seqItems ho hd (wpAny_pure ?_)))
  rw [← Array.forIn_toList]
  refine wpAny_bind (ru_fold (room_guard hr hw hcu) (hfu.trans hf) (guards_under_guard hcg hg) (fun b hb => (hc b (List.mem_cons_of_mem _ hb)).cons fun e => hna (e ▸ hb)) hT _ _ _ H1 s _ (by simpa using rv) (by omega) s1 I fun H2 s' s2 I2 => ?_)
  refine wpAny_bind (wpAny_mkStr (wpAny_pure ?_) ?_)
  · have z := q H2 { s' with toks := s'.toks + 1 } s'.toks s2 (I2.tok _)
    simpa [tupleText, hl, hlv] using z
  · have z : (tupleText ts).length ≤ sizeLine := by omega
    simpa [tupleText, hl, hlv] using z
theorem RU.tuple {a : Addr} {xs : List V} {ts : List Str} (ha : H a = some (.tup xs)) (hna : a ∉ as) (hT : RUs X as k H xs ts) : RU X (a :: as) (k + 1) H (.ref a) (tupleText ts) := by
  intro base A g pins σ H1 s u Q E hz hr hf hg hc s1 I rx q
  cases (show u = Value.ref a from rx)
  obtain ⟨_, _, _, o, ho, hcl, _⟩ := I.hok a _ (s1 _ _ ha)
  have hu := hr.un
  refine wpAny_pyReprUnder_ref (by omega) (wpAny_pyReprObjUnder_twin (twin := "tuple.__repr__.under") ⟨o, ho, hcl⟩ F.slot_tuple_repr rfl (by omega) ?_)
  exact call_twin_own (F.quiet_tuple_repr_under _) F.entry_tuple_repr_under F.check_tuple_repr_under ⟨o, ho, hcl⟩ F.slot_tuple_repr (F.args_tuple_repr_1 _)
    (ru_tupBody ha hT hna (isGuard_tuple_repr_under _) (weight_tupU _) (units_tupU _) hr hf (by rfl) hg hc s1 I hz fun H2 s' u s2 I2 => ⟨⟨_, _, rfl⟩, _, _, rfl, q H2 s' s2 I2⟩)
end
end Own

/-! repr of lists, of own things, and the call of repr. -/
namespace Own
open PySem PySem.Spec PySem.Calls PyProof.Rows L2
section
variable {X : Cx} {as : List Addr} {k : Nat} {H : Hp}
theorem strvals : ∀ {ts : List Str} {us : List Value}, Vals (ts.map V.str) us → ∃ l : List (Str × Tok), us = strValues l ∧ l.map (·.1) = ts
  | [], _, .nil => ⟨[], rfl, rfl⟩
  | t :: ts, _, .cons r rs => by
    obtain ⟨tk, rfl⟩ := (show ∃ tk, _ = Value.str t tk from r)
    obtain ⟨l, rfl, e⟩ := strvals rs
    exact ⟨(t, tk) :: l, rfl, by rw [List.map_cons, e]⟩
theorem RUs.at {xs : List V} {ts : List Str} (h : RUs X as k H xs ts) : ∀ (i : Nat) (x : V), xs[i]? = some x → ∃ t, ts[i]? = some t ∧ RU X as k H x t := by
  induction h with
  | nil =>
    intro i x e
    simp at e
  | cons hx h ih =>
    intro i x e
    cases i with
    | zero =>
      cases Option.some.inj e
      exact ⟨_, rfl, hx⟩
    | succ i => exact ih i x e
/-- the loop of a list's repr, i parts told, kept in the list at P -/
theorem ru_listLoop {a P : Addr} {xs : List V} {ts : List Str} {A : Around} {g : List Code} {pins : List (Addr × Obj)} {σ : L2.St} {base : Nat} {R : Result → Shared → Prop} (ha : H a = some (.lst xs)) (hT : RUs X as k H xs ts) (hna : a ∉ as)
    (hr : Room (k + 1) A) (hf : A.frames = X.A.frames) (hg : A.guards = some g) (hc : ∀ b ∈ as, Clear g b) (hz : base + (listText ts).length ≤ sizeLine) (hxs : xs.length ≤ sizeLine)
    (q : ∀ H2 s' u, Same H H2 → Inv X pins σ H2 s' → R (.ok (.ret (.str (listText ts) u))) s') :
    ∀ (m i : Nat) (H1 : Hp) (s : Shared), xs.length - i = m → i ≤ xs.length → Same H H1 → H P = none → H1 P = some (.lst ((ts.take i).map V.str)) → Inv X pins σ H1 s →
      codeAny (model X.prog X.w) A (.builtin "list.__repr__.loop" ⟨[.ref a, rawInt i, .ref P, rawInt ((base + piled (ts.take i) : Nat) : Int)], []⟩) R s := by
  have hl := hT.len
  have hp := piled_le_listText ts
  intro m
  induction m with
  | zero =>
    intro i H1 s hm hi s1 nP hP I
    obtain ⟨_, its, n, r, hlen, e⟩ := I.lstM (s1 _ _ ha)
    obtain ⟨_, us, n2, r2, _, e2⟩ := I.lstM hP
    obtain ⟨l, rfl, hl2⟩ := strvals r2
    refine codeAny_builtin F.entry_list_repr_loop ?_
    show wpAny _ _ (Builtin.«list.__repr__.loop» ⟨[.ref a, .int i 0, .ref P, .int ((base + piled (ts.take i) : Nat) : Int) 0], []⟩) _ _ s
    rw [repr_loop_tree]
    refine wpAny_bind (wpAny_listItems e rfl ?_)
    have hnone : its.toArray[(i : Int).toNat]? = none := by
      simp
      omega
    simp only [hnone]
    unfold reprEnd
    refine wpAny_bind (wpAny_listItems e2 rfl ?_)
    rw [List.toList_toArray, repr_fold]
    refine wpAny_bind (wpAny_pure ?_)
    have hall : l.map (·.1) = ts := by rw [hl2, List.take_of_length_le (by omega)]
    rw [hall]
    exact wpAny_bind (wpAny_mkStr (wpAny_pure (q H1 _ _ s1 (I.tok _))) (show (listText ts).length ≤ sizeLine by omega))
  | succ m ih =>
    intro i H1 s hm hi s1 nP hP I
    obtain ⟨_, its, n, r, hlen, e⟩ := I.lstM (s1 _ _ ha)
    have hlt : i < xs.length := by omega
    obtain ⟨t, ht, hx⟩ := hT.at i xs[i] (by simp [hlt])
    have hlt2 : i < its.length := by omega
    have ru : RelV xs[i] its[i] := by
      obtain ⟨u, hu, ru⟩ := Vals.get (i := i) (x := xs[i]) r (by simp [hlt])
      rw [List.getElem?_eq_getElem hlt2] at hu
      cases hu
      exact ru
    have hp1 := piled_take_succ ht
    have hp2 := piled_take_le ts (i + 1)
    refine codeAny_builtin F.entry_list_repr_loop ?_
    show wpAny _ _ (Builtin.«list.__repr__.loop» ⟨[.ref a, .int i 0, .ref P, .int ((base + piled (ts.take i) : Nat) : Int) 0], []⟩) _ _ s
    rw [repr_loop_tree]
    refine wpAny_bind (wpAny_listItems e rfl ?_)
    have hsome : its.toArray[(i : Int).toNat]? = some its[i] := by simp [hlt2]
    simp only [hsome]
    rw [Int.toNat_natCast]
    refine wpAny_bind (wpAny_holding (hx (base + piled (ts.take i) + 1) _ _ pins σ H1 s its[i] _ _ (by omega) (room_guard hr (weight_lst _) (units_lst _)) hf (guards_under_guard (isGuard_list_loop _) hg) (fun b hb => (hc b hb).cons (a := a) fun z => hna (z ▸ hb)) s1 I ru fun H2 s' s2 I2 => ?_))
    have s12 := s1.trans s2
    have ht2 : t.length ≤ sizeLine := by omega
    refine wpAny_bind (wpAny_mkStr ?_ ht2)
    refine wpAny_bind ?_
    show wpAny _ _ (updateSeq P _) _ _ _
    have hP2 := s2 _ _ hP
    have I3 := I2.tok (s'.toks + 1)
    obtain ⟨_, us, n2, r2, hlen2, e2⟩ := I3.lstM hP2
    have hsz2 : us.toArray.size ≤ sizeLine := by
      rw [List.size_toArray, ← hlen2, List.length_map, List.length_take]
      omega
    refine wpAny_updateSeq e2 rfl (wpAny_pure ⟨F.quiet_list_repr_loop _, ?_⟩) hsz2
    have I4 := I3.lset (f := (·.push (.str t s'.toks))) (its' := us ++ [.str t s'.toks]) (ys := (ts.take i).map V.str ++ [V.str t]) (t' := s'.toks + 1) hP2 e2 (by simp) (r2.append (.cons ⟨_, rfl⟩ .nil)) (by
      rw [List.length_append, List.length_map, List.length_take, List.length_singleton]
      omega)
    have e1 : ((i : Int) + 1) = ((i + 1 : Nat) : Int) := by omega
    have e3 : base + piled (ts.take i) + (t.length + 2) = base + piled (ts.take (i + 1)) := by omega
    rw [e1, e3]
    refine ih (i + 1) _ _ (by omega) hlt (fun b o h => ?_) nP ?_ I4
    · rw [upd_ne (ne_of_none h nP)]
      exact s12 _ _ h
    · rw [upd_same]
      simp [List.take_add_one, ht]
theorem RUs.mono {H' : Hp} (hs : Same H H') {xs : List V} {ts : List Str} (h : RUs X as k H xs ts) : RUs X as k H' xs ts := by
  induction h with
  | nil => exact .nil
  | cons hx h ih => exact .cons (hx.mono hs) ih
/-- the own work of a list's repr, the list not empty -/
theorem ru_listBody {a : Addr} {x : V} {xs : List V} {ts : List Str} {A : Around} {g : List Code} {pins : List (Addr × Obj)} {σ : L2.St} {H1 : Hp} {s : Shared} {base : Nat} {R : Result → Shared → Prop} (ha : H a = some (.lst (x :: xs))) (hT : RUs X as k H (x :: xs) ts) (hna : a ∉ as)
    (hr : Room (k + 1) A) (hf : A.frames = X.A.frames) (hg : A.guards = some g) (hc : ∀ b ∈ a :: as, Clear g b) (s1 : Same H H1) (I : Inv X pins σ H1 s) (hz : base + (listText ts).length ≤ sizeLine)
    (q : ∀ H2 s' u, Same H1 H2 → Inv X pins σ H2 s' → R (.ok (.ret (.str (listText ts) u))) s') :
    wpAny (model X.prog X.w) A.in1 (Builtin.listReprAt base ⟨[.ref a], []⟩) (fun fin s' => match fin with | .done f => R (.ok f) s' | .again c' => c'.quiet = true ∧ codeAny (model X.prog X.w) A c' R s') (fun e s' => R (.error e) s') s := by
  obtain ⟨hz1, its, n, r, _, e⟩ := I.lstM (s1 _ _ ha)
  have he : H1 a = some (.lst (x :: xs)) := s1 _ _ ha
  cases r with
  | cons r0 r =>
    refine wpAny_list_repr_head (A := A.in1) hg (fun v rest kw hm => listSameRef_of_ne (hc a List.mem_cons_self _ _ _ _ hm)) e rfl ?_
    refine wpAny_bind (m := newList []) (wpAny_newObj_type ?_)
    refine wpAny_pure ⟨F.quiet_list_repr_loop _, ?_⟩
    have nP : H1 s.heap.objs.size = none := I.hok.fresh (Nat.le_refl _)
    have J : Inv X pins σ (upd H1 s.heap.objs.size (.lst [])) { s with heap := s.heap.push { cls := .type "list", dict := none, data := .seq #[] 0 } } :=
      I.laid (t' := s.toks) (fun b o q => Heap.get?_push_of_some _ q) (Nat.le_refl _) ⟨Nat.zero_le _, [], 0, .nil, Heap.get?_push_size _ rfl⟩
    have sJ : Same H1 (upd H1 s.heap.objs.size (.lst [])) := fun b o q => by
      rw [upd_ne (ne_of_none q nP)]
      exact q
    have lp := ru_listLoop (X := X) (as := as) (k := k) (H := H1) (P := s.heap.objs.size) (base := base) (pins := pins) (σ := σ) (R := R) (A := A) (g := g) he (ts := ts)
      (hT.mono s1) hna hr hf hg (fun b hb => hc b (List.mem_cons_of_mem _ hb)) hz hz1 q _ 0 _ _ rfl (Nat.zero_le _) sJ nP upd_same J
    simpa [piled] using lp
theorem RU.list {a : Addr} {x : V} {xs : List V} {ts : List Str} (ha : H a = some (.lst (x :: xs))) (hna : a ∉ as) (hT : RUs X as k H (x :: xs) ts) : RU X (a :: as) (k + 1) H (.ref a) (listText ts) := by
  intro base A g pins σ H1 s u Q E hz hr hf hg hc s1 I rx q
  cases (show u = Value.ref a from rx)
  obtain ⟨_, its, n, r, _, e⟩ := I.lstM (s1 _ _ ha)
  have hu := hr.un
  refine wpAny_pyReprUnder_ref (by omega) (wpAny_pyReprObjUnder_twin (twin := "list.__repr__.under") ⟨_, e, rfl⟩ F.slot_list_repr.toG rfl (by omega) ?_)
  exact call_twin_plain F.plain_list_repr_under F.entry_list_repr_under F.check_list_repr_under ⟨_, e, rfl⟩ F.slot_list_repr.toG (F.args_list_repr_1 _)
    (ru_listBody ha hT hna hr hf hg hc s1 I hz fun H2 s' u s2 I2 => ⟨⟨_, _, rfl⟩, _, _, rfl, q H2 s' s2 I2⟩)
/-- things of the library's own certificate -/
theorem RU.of_K {x : V} {t : Str} {d : Nat} (hd : d ≤ 16 * k + 200) (h : ∀ pins σ H1 s u, Same H H1 → Inv X pins σ H1 s → RelV x u → ReprK X.prog X.w as s.heap d u t) : RU X as k H x t := by
  intro base A g pins σ H1 s u Q E hz hr hf hg hc s1 I rx q
  have hu := hr.un
  exact h pins σ H1 s u s1 I rx base hz A g E s Q hg hc (by omega) (fun _ _ e => e) fun h' tk keep => q H1 _ (Same.refl _) (I.kept keep)
theorem RU.list0 {a : Addr} (ha : H a = some (.lst [])) : RU X as k H (.ref a) "[]" := RU.of_K (d := 0) (Nat.zero_le _) fun pins σ H1 s u s1 I rx => by
  cases (show u = Value.ref a from rx)
  obtain ⟨_, its, n, r, _, e⟩ := I.lstM (s1 _ _ ha)
  cases r
  exact ReprK.listEmpty e rfl rfl
/-- an own thing, by its own __repr__ -/
theorem RU.own {CX : CXT} {C g0 : Addr} {n : Nat} {sp : Sp} {E0 : XK} {a dx : Addr} {fs : List (Str × V)} {t : Str} (ha : H a = some (.ins C dx fs)) (hs : PySem.W.findIn X.K (.ref C) "__repr__" = some (some (.ref g0))) (hfn : PySem.W.isFn X.K (.ref g0) = true)
    (F : FnR X.prog X.w X.K X.mg X.base CX n g0 sp) (hk : n ≤ k) (hE : ∀ s' e s H', CX X.stack H' s E0 e s' → False)
    (h : ∀ H1, Same H H1 → sp [.ref a] H1 (fun z H2 => z = .str t ∧ Same H1 H2) E0) : RU X as k H (.ref a) t := by
  intro base A g pins σ H1 s u Q E hz hr hf hg hc s1 I rx q
  cases (show u = Value.ref a from rx)
  obtain ⟨od, J⟩ := inst_of I (s1 _ _ ha)
  have hu := hr.un
  have e0 : Env0 X.prog X.w X.K X.mg X.base A X.stack s H1 := ⟨hf.trans I.ok.frames, I.env0.mod, I.env0.bs, I.env0.bsz, I.env0.funs, I.env0.frf, I.env0.hok, I.env0.bare⟩
  have run : wpAny (model X.prog X.w) A (call (.ref g0) [.ref a]) (fun v s' => ∃ tk, v = .str t tk ∧ Q t s') E s := by
    refine wpAny_call (codeAny_mono (F A X.stack s H1 [.ref a] [.ref a] _ E0 (hr.mono hk) e0 (.cons rfl .nil) (h H1 s1)) fun r s' hq => ?_)
    cases r with
    | error e => exact (hE _ _ _ _ hq).elim
    | ok fl =>
      cases fl with
      | next => exact hq.elim
      | brk => exact hq.elim
      | cont => exact hq.elim
      | ret v =>
        obtain ⟨w', H2, I2, rv, ez, s2⟩ := I.after hq
        subst ez
        obtain ⟨tk, rfl⟩ := (show ∃ tk, v = Value.str t tk from rv)
        exact ⟨tk, rfl, q H2 s' s2 I2⟩
  refine wpAny_pyReprUnder_ref (by omega) ?_
  unfold pyReprObjUnder pyReprObjBy
  refine wpAny_bind (wpAny_cRoomFor (by omega) ?_)
  refine wpAny_bind (wpAny_bind (J.type.here ((PySem.W.looks_findIn I.kIn hs).here ?_)))
  show wpAny _ _ (if (some (Value.ref g0)).isNone = true then _ else _) _ _ _
  rw [if_neg (by simp)]
  have fin : wpAny (model X.prog X.w) A ((fun (g : Value) (first : List Value) => match reprUnder? g, first with | some twin, [self] => call twin [self, rawInt base] | _, _ => call g (first ++ [])) (.ref g0) [.ref a] >>= fun v => pure (some v))
      (fun r s' => ∃ v tk, r = some v ∧ v = .str t tk ∧ Q t s') E s := wpAny_bind (wpAny_mono run (fun v s' ⟨tk, e, h⟩ => wpAny_pure ⟨v, tk, rfl, e, h⟩) fun _ _ x => x)
  have bound : wpAny (model X.prog X.w) A (callSpecialIfBoundBy? (fun g first => match reprUnder? g, first with | some twin, [self] => call twin [self, rawInt base] | _, _ => call g (first ++ [])) (.ref a) "__repr__") (fun r s' => ∃ v tk, r = some v ∧ v = .str t tk ∧ Q t s') E s := by
    simp only [callSpecialIfBoundBy?, bindSpecialIfBound?]
    refine wpAny_holding (wpAny_bind (wpAny_bind (wpAny_bind (J.type.here ((PySem.W.looks_findIn I.kIn hs).here ?_)))))
    refine wpAny_bind (wpAny_askSetting (wpAny_ite ?_))
    have B := PySem.W.bind_fn (M := model X.prog X.w) I.kIn (.ref a) (beq_iff_eq.mp hfn)
    split
    · exact wpAny_bind (B.here (wpAny_pure fin))
    · exact wpAny_tryCatch (wpAny_bind (B.here (wpAny_pure fin)))
  refine wpAny_bind (wpAny_mono bound (fun r s' ⟨v, tk, e1, e2, h⟩ => ?_) fun _ _ x => x)
  subst e1
  subst e2
  exact wpAny_bind (wpAny_isInstance (T := "str") (b := true) rfl isSubtype_str_str (wpAny_pure ⟨_, _, rfl, h⟩))
end
end Own

/-! the call of repr. -/
namespace Own
open PySem PySem.Spec PySem.Calls PyProof.Rows L2
section
variable {X : Cx} {k : Nat}
/-- repr of a tuple or a list of things whose reprs are known -/
def rRepr (X : Cx) (k : Nat) : List V → Hp → VK → Prop := fun xs H Q => ∃ (a : Addr) (zs : List V) (ts : List Str) (as : List Addr) (t : Str), xs = [.ref a] ∧ a ∉ as ∧ RUs X as k H zs ts ∧
  ((H a = some (.tup zs) ∧ t = tupleText ts) ∨ (H a = some (.lst zs) ∧ zs ≠ [] ∧ t = listText ts)) ∧ t.length ≤ sizeLine ∧ ∀ H', Same H H' → Q (.str t) H'
theorem call_repr (hg : X.A.guards = some []) (hr : Room (k + 2) X.A) : CallR X (.builtin "repr") (rRepr X k) := by
  intro pins s σ H xs us Q I r h
  obtain ⟨a, zs, ts, as, t, rfl, hna, hT, hcase, hz, q⟩ := h
  cases r with
  | cons rx rr =>
    cases rr
    cases rx
    have hu := hr.un
    have hr1 : Room (k + 1) X.A.in1 := hr.in1
    have end_ : ∀ {t : Str}, (∀ H', Same H H' → Q (.str t) H') → ∀ (H2 : Hp) (s' : Shared) (u : Tok), Same H H2 → Inv X pins σ H2 s' → callEnd (fun r s₁ => ∃ x t, r = Value.str x t ∧ EP X pins σ Q r s₁) X.xe (.ok (.ret (.str t u))) s' := fun q H2 s' u s2 I2 =>
      ⟨_, _, rfl, .str _, H2, I2, ⟨u, rfl⟩, q H2 s2⟩
    rcases hcase with ⟨ha, rfl⟩ | ⟨ha, hne, rfl⟩
    · obtain ⟨_, _, _, o, ho, hcl, _⟩ := I.hok a _ ha
      refine call_repr_slot (by omega) ⟨o, ho, hcl⟩ F.slot_tuple_repr ?_
      exact wpAny_call (codeAny_call_builtin_own (Code.quiet_builtin _ (by decide +kernel)) F.entry_tuple_repr (F.slot_tuple_repr.check _ _ _ _ _ _ _ _ ⟨o, ho, hcl⟩ (F.args_tuple_repr_1 _)
        (ru_tupBody (base := 0) ha hT hna (isGuard_tuple_repr _) (weight_tup _) (units_tup _) hr1 rfl (by rfl) hg (fun b _ => Clear.nil b) (Same.refl _) I (by omega) (end_ q))))
    · obtain ⟨_, its, n, r, _, e⟩ := I.lstM ha
      refine call_repr_slot (by omega) ⟨_, e, rfl⟩ F.slot_list_repr.toG ?_
      cases zs with
      | nil => exact absurd rfl hne
      | cons z zs =>
        exact wpAny_call (codeAny_call_builtin F.slot_list_repr.plain F.entry_list_repr (F.slot_list_repr.check _ _ _ _ _ _ _ _ ⟨_, e, rfl⟩ (F.args_list_repr_1 _)
          (ru_listBody (base := 0) ha hT hna hr1 rfl hg (fun b _ => Clear.nil b) (Same.refl _) I (by omega) (end_ q))))
/-- repr of an own thing -/
theorem call_reprO {CX : CXT} {C g0 : Addr} {n : Nat} {sp : Sp} {E : XK} (hs : PySem.W.findIn X.K (.ref C) "__repr__" = some (some (.ref g0))) (hf : PySem.W.isFn X.K (.ref g0) = true) (F : FnR X.prog X.w X.K X.mg X.base CX n g0 sp) (hr : Room (n + 1) X.A) (hx : Passes CX X E) :
    CallR X (.builtin "repr") (fun xs H Q => ∃ a dx fs, xs = [.ref a] ∧ H a = some (.ins C dx fs) ∧ sp [.ref a] H (fun z H' => ∃ t, z = .str t ∧ Q (.str t) H') E) := by
  intro pins s σ H xs us Q I r h
  obtain ⟨a, dx, fs, rfl, ha, q⟩ := h
  cases r with
  | cons rx rr =>
    cases rr
    cases rx
    obtain ⟨od, J⟩ := inst_of I ha
    obtain ⟨m, hF⟩ := I.fr
    refine PySem.W.repr_K (by have := hr.un; show X.A.units + 1 < cLine; omega) hF I.ok.mod.kin J hs hf (wpAny_mono (run_g1 (us := [.ref a]) (vs := [.ref a]) F hr hx I (.cons rfl .nil) q) (fun w s' z => ?_) fun _ _ x => x)
    obtain ⟨_, H', I', rz, t, rfl, qz⟩ := z
    obtain ⟨tk, rfl⟩ := (show ∃ tk, w = Value.str t tk from rz)
    exact ⟨.str t, H', I', ⟨tk, rfl⟩, qz⟩
end
end Own

/-! A def that calls what it got, and keeps the error that comes of it. -/
namespace Own
open PySem PySem.Spec PySem.Calls PyProof.Rows L2 LamX
section
variable {X : Cx}
theorem takes_len {W : WX} (tk : Takes X W) : Takes X (fun cls d σ H => σ.length = X.N.length → W cls d σ H) := fun u s' ⟨a, B, sI, pins, σ, H, cls, d, e, I, nb, up, sky, na, os, ag, w⟩ =>
  tk u s' ⟨a, B, sI, pins, σ, H, cls, d, e, I, nb, up, sky, na, os, ag, w I.len⟩
/-- the context of the def that got it -/
abbrev gotCx (X : Cx) (Ng : List Str) (x : Str) (sg : Scope) (g : Addr) (cdg : Value) (s : Shared) (H : Hp) : Cx := (cxOf C8.CX0 X.prog X.w X.K X.mg X.base Ng x sg g cdg X.A X.stack s H C8.E0).nox
/-- what is told of the call of f -/
def Act (X : Cx) (Ng : List Str) (x : Str) (sg : Scope) (g : Addr) (cdg : Value) (a q : Str) (f c' : Addr) (s : Shared) (H : Hp) (tl : XK → Hp → VK → Prop) : Prop :=
  ∀ (W : WX) (pn : List (Addr × Obj)) (xe : Value → Shared → Prop) (E : XK) (p1 p2 : Pos), Takes ((cxOf C8.CX0 X.prog X.w X.K X.mg X.base Ng x sg g cdg X.A X.stack s H C8.E0).tr pn xe) W → (∀ cls d σ' H', E cls d H' → W cls d σ' H') →
    PE ((cxOf C8.CX0 X.prog X.w X.K X.mg X.base Ng x sg g cdg X.A X.stack s H C8.E0).tr pn xe) (.Call (.Name a p1) [] [] p2) (fun σZ HZ Q => σZ[0]? = some (some (.ref f)) ∧ HZ c' = some (CodeO c' q) ∧ tl E HZ Q)
/-- try: found = ask() / except e as n: caught = n -/
def tAsk (K : PySem.W.Frag) (CS f c' : Addr) (q : Str) (len i j m : Nat) (tl : XK → Hp → VK → Prop) : TS := fun D σ H =>
  ∃ Ech : XK, σ[0]? = some (some (.ref f)) ∧ H c' = some (CodeO c' q) ∧ tl Ech H (fun v H1 => D.nx (σ.set m (some v)) H1) ∧
    ∀ (cls : Value) (d : Option Addr) (σ' : L2.St) (H' : Hp), σ'.length = len → Ech cls d H' → ∃ b, PySem.W.exmOne K cls (.ref CS) = some b ∧ (b = true → ∀ a, H' a = none → D.nx (((σ'.set i (some (.ref a))).set j (some (.ref a))).set i none) (upd H' a (kex a cls d))) ∧ (b = false → False)
theorem ps_ask {Ng : List Str} {x a e n cgt fnd q : Str} {sg : Scope} {g CS f c' : Addr} {cdg : Value} {s : Shared} {H : Hp} {tl : XK → Hp → VK → Prop} {i j m : Nat} {p1 p2 p3 p4 p5 p6 p7 p8 p9 p10 : Pos} (act : Act X Ng x sg g cdg a q f c' s H tl)
    (nd : Ng.Nodup) (hi : Ng[i]? = some n) (hj : Ng[j]? = some cgt) (hm : Ng[m]? = some fnd) (li : sg.names.lookup n = some .local) (lj : sg.names.lookup cgt = some .local) (lm : sg.names.lookup fnd = some .local) (hil : i < Ng.length)
    (ln : (envOfC x sg s.heap.objs.size g cdg).kindOf n = some .local) (hge : sg.names.lookup e = some .globalImplicit) (hme : X.mg e = some (.ref CS)) (hde : (e == ("__debug__" : Str)) = false := by decide) (hd : (n == ("__debug__" : Str)) = false := by decide) (hcd : (n == ("__classdict__" : Str)) = false := by decide)
    (sw : swapsWith (.Call (.Name a p1) [] [] p2) (some (.Name fnd p3)) p4.line (gotCx X Ng x sg g cdg s H).env = pure false := by rfl)
    (sw2 : swapsWith (.Name n p6) (some (.Name cgt p7)) p8.line (gotCx X Ng x sg g cdg s H).env = pure false := by rfl) :
    PS (gotCx X Ng x sg g cdg s H) (.Try [.Assign [.Name fnd p3] (.Call (.Name a p1) [] [] p2) p4] [.ExceptHandler (some (.Name e p5)) (some n) [.Assign [.Name cgt p7] (.Name n p6) p8] p9] [] [] p10)
      (tAsk X.K CS f c' q Ng.length i j m tl) := by
  have key := ps_try_keep (X := gotCx X Ng x sg g cdg s H) (x := e) (n := n) (c := .ref CS) (i := i) (body := [.Assign [.Name fnd p3] (.Call (.Name a p1) [] [] p2) p4]) (b₀ := .Assign [.Name cgt p7] (.Name n p6) p8) (suite := []) (np := p5) (pos := p10) (pos' := p9)
    (tb := fun W D σ H => ∃ Ech : XK, (∀ (cls : Value) (d : Option Addr) (σ' : L2.St) (H' : Hp), Ech cls d H' → σ'.length = Ng.length → W cls d σ' H') ∧ σ[0]? = some (some (.ref f)) ∧ H c' = some (CodeO c' q) ∧ tl Ech H (fun v H1 => D.nx (σ.set m (some v)) H1))
    (ts := fun _ _ _ => tAsg (tVar i) (gName j)) (Wout := fun _ _ _ _ => False) rfl rfl rfl nd hi ln ⟨hge, hde, .inl hme⟩ LamX.takes0 (fun W pn xe tk _ => ?_) (fun a oe cls d pn _ _ => ?_)
  · refine ⟨fun pins s' σ H' D I h => key.run pins s' σ H' D I ?_⟩
    obtain ⟨Ech, h1, h2, h3, h4⟩ := h
    refine ⟨Ech, fun cls d σ' H2 he hl => ?_, h1, h2, h3⟩
    obtain ⟨b, e1, e2, e3⟩ := h4 cls d σ' H2 hl he
    exact ⟨b, e1, fun hb a na => ⟨.ref a, by
      rw [List.getElem?_set_self (by rw [hl]; exact hil)], na, e2 hb a na⟩, fun hb => (e3 hb).elim⟩
  · refine ⟨fun pins s' σ H' D I h => ?_⟩
    obtain ⟨Ech, hW, h1, h2, h3⟩ := h
    have hp := act _ pn xe Ech p1 p2 (takes_len tk) hW
    exact (pss_one (ps_set (i := m) nd hm (.inl lm) hp sw (.inl rfl))).run pins s' σ H' D I ⟨h1, h2, h3⟩
  · exact pss_one (ps_set (i := j) nd hj (.inl lj) (pe_var hi (.inl li) hd hcd) sw2 (.inl rfl))
end
end Own

/-! Own errors that keep what they are made of. -/
namespace Own
open PySem PySem.Spec PySem.Calls PyProof.Rows L2 LamX
/-- self.f = value -/
def spErr (C : Addr) (f : Str) : Sp := fun vs H Q _ => ∃ (a : Addr) (v : V), vs = [.ref a, v] ∧ H a = some (exo a C none) ∧ ∀ dx, H dx = none → dx ≠ a → Q .non (upd (upd H dx (exd dx [(f, v)])) a (exo a C (some dx)))
/-- what is known of an error class x of this shape, its field f -/
structure Er (K : PySem.W.Frag) (mg : Str → Option Value) (x qual f : Str) (st : Stmt) (C fI : Addr) (fd : FuncData) : Prop where
  o : OexC K C
  mgC : mg x = some (.ref C)
  ini : PySem.W.findIn K (.ref C) "__init__" = some (some (.ref fI))
  tyI : PySem.W.typeIn K (.ref fI) = some (.type "function")
  fn : Fun K "__init__" qual st fI fd
  bi : L2.Binds K fd ["self", f] []
  nf : PySem.W.findIn K (.ref C) f = some none
  fld : XfC K C
section
variable {P : Program} {w : World} {K : PySem.W.Frag} {mg : Str → Option Value} {base : Heap} {x qual f : Str} {st : Stmt} {C fI : Addr} {fd : FuncData}
theorem ok_err {p1 p2 p3 p4 : Pos} (T : Er K mg x qual f st C fI fd) (sc : FnScope ["self", f] ["self", f] (defScope st)) (hb : defBody st = [.Assign [.Attribute (.Name "self" p1) f p2] (.Name f p3) p4])
    (hd1 : (f == ("__debug__" : Str)) = false) (hd2 : (f == ("__classdict__" : Str)) = false) : FnOk P w K mg base CX0 1 fI fd ["self", f] (spErr C f) := by
  refine T.fn.ok sc (fun vs H Q E h => ?_) (fun cdv A outer s H vs Q E hr h => ?_)
  · obtain ⟨a, v, rfl, _⟩ := h
    rfl
  · obtain ⟨a, v, rfl, ha, k⟩ := h
    rw [hb]
    have vs_ : ∀ n, n ∈ (["self", f] : List Str) → Vis (defScope st) n := fun n hn => by
      rcases sc.par n hn with q | q
      · exact .inl q
      · exact .inr (.inl q)
    refine ⟨_, pss_one (ps_ost (pe_var (i := 0) rfl (vs_ _ List.mem_cons_self)) (pe_var (i := 1) rfl (vs_ _ (List.mem_cons_of_mem _ List.mem_cons_self)) hd1 hd2)), ?_⟩
    exact ⟨v, rfl, .ref a, rfl, a, C, rfl, T.o, T.nf, .inl ⟨ha, k⟩⟩
end
section
variable {X : Cx} {x qual f : Str} {st : Stmt} {C fI : Addr} {fd : FuncData}
/-- raise x(e) -/
theorem ps_raise1 {e : Expr} {ta : TA} {W : WX} {p pos pos' : Pos} (hc : X.calm = true) (T : Er X.K X.mg x qual f st C fI fd) (F : FnOk X.prog X.w X.K X.mg X.base CX0 1 fI fd ["self", f] (spErr C f)) (hr : Room 2 X.A) (tk : Takes X W) (hg : Gl X x)
    (ha : PA X [e] ta) (hdb : (x == ("__debug__" : Str)) = false := by decide) (hs : starEach [e] X.env = (false, eval e X.env) :: starEach [] X.env := by rfl) (hpl : (backTo pos (starEach [] X.env)).any (·.1) = false := by rfl) :
    PS X (.Raise (some (.Call (.Name x p) [e] [] pos)) none pos') (fun _ σ H => tMkO C (spErr C f) [] ta σ H fun cls d H' => W cls d σ H') :=
  ps_raise hc tk (pmk_oex T.o T.ini T.tyI F hr T.bi .nil pass0 hg T.mgC ha hdb hs hpl)
/-- the error is made: its dict is new -/
theorem mk1 {v : V} {H1 : Hp} {Q : XK} (h : ∀ d, H1 d = none → Q (.ref C) (some d) (upd H1 d (.xd [(f, v)]))) :
    [v].length ≤ 1000 ∧ ∀ a, H1 a = none → spErr C f (.ref a :: ([v] ++ [])) (upd H1 a (exo a C none))
      (fun z H2 => z = .non ∧ ∃ (d : Addr) (fs : List (Str × V)), H2 a = some (exo a C (some d)) ∧ H2 d = some (exd d fs) ∧ H1 d = none ∧ Q (.ref C) (some d) (upd (del H2 a) d (.xd fs))) (fun _ _ _ => False) := by
  refine ⟨by simp, fun a ha => ⟨a, v, rfl, upd_same, fun dx hdx hne => ⟨rfl, dx, _, upd_same, by rw [upd_ne hne, upd_same], ?_, ?_⟩⟩⟩
  · rw [upd_ne hne] at hdx
    exact hdx
  · have hd1 : H1 dx = none := by
      rw [upd_ne hne] at hdx
      exact hdx
    have e : upd (del (upd (upd (upd H1 a (exo a C none)) dx (exd dx [(f, v)])) a (exo a C (some dx))) a) dx (.xd [(f, v)]) = upd H1 dx (.xd [(f, v)]) := by
      funext b
      by_cases h1 : b = dx
      · rw [h1, upd_same, upd_same]
      · rw [upd_ne h1, upd_ne h1]
        by_cases h2 : b = a
        · rw [h2, del_same, ha]
        · rw [del_ne h2, upd_ne h2, upd_ne h1, upd_ne h2]
    rw [e]
    exact h dx hd1
end
end Own

/-! str of an own thing. -/
namespace Own
open PySem PySem.Spec PySem.Calls PyProof.Rows L2
section
variable {X : Cx} {CX : CXT} {C g0 : Addr} {n : Nat} {sp : Sp} {E : XK}
theorem call_strO (hs : PySem.W.findIn X.K (.ref C) "__str__" = some (some (.ref g0))) (hf : PySem.W.isFn X.K (.ref g0) = true) (F : FnR X.prog X.w X.K X.mg X.base CX n g0 sp) (hr : Room (n + 2) X.A) (hx : Passes CX X E) :
    CallR X (.type "str") (fun xs H Q => ∃ a dx fs, xs = [.ref a] ∧ H a = some (.ins C dx fs) ∧ sp [.ref a] H (fun z H' => ∃ t, z = .str t ∧ Q (.str t) H') E) := by
  intro pins s σ H xs us Q I r h
  obtain ⟨a, dx, fs, rfl, ha, q⟩ := h
  cases r with
  | cons rx rr =>
    cases rr
    cases rx
    obtain ⟨od, J⟩ := inst_of I ha
    refine PySem.W.kso_call (prog := X.prog) (w := X.w) (A := X.A) (Q := EP X pins σ Q) (E := X.xe) (by have := hr.un; show X.A.units + 1 + 1 < cLine; omega) I.kIn J hs hf ?_
    refine wpAny_call (codeAny_mono (F X.A.in1.in1 X.stack s H [.ref a] [.ref a] _ E hr.in1.in1 I.env0.in1.in1 (.cons rfl .nil) q) fun r s' hq => ?_)
    cases r with
    | error e => exact hx _ _ _ _ _ _ I hq
    | ok fl =>
      cases fl with
      | next => exact hq.elim
      | brk => exact hq.elim
      | cont => exact hq.elim
      | ret u =>
        obtain ⟨_, H', I', rz, t, rfl, qz⟩ := I.after hq
        obtain ⟨tk, rfl⟩ := (show ∃ tk, u = Value.str t tk from rz)
        exact ⟨.str t, H', I', ⟨tk, rfl⟩, qz⟩
end
end Own

/-! a builtin thing == an own thing: the builtin's own __eq__ knows nothing of it, the own one is asked. -/
namespace Own
open PySem PySem.Spec PySem.Calls PyProof.Rows L2
section
variable {K : PySem.W.Frag} {x C g : Addr} {ox : Obj} {od : Option Obj} {s : Shared} {A : Around} {E : Value → Shared → Prop}
theorem eq_refl_K {prog : Program} {w : World} {T id : String} {a : Value} {Q : Value → Shared → Prop} (hu : A.units < cLine) (X : K.In s.heap) (I : PySem.W.InstAt s.heap x ox C od) (hT : s.TypeIs a T) (sl : SlotG T (Str.ofString "__eq__") id)
    (hsub : PySem.W.subIn K (.ref C) (.type T) = some false) (hs : PySem.W.findIn K (.ref C) "__eq__" = some (some (.ref g))) (hf : PySem.W.isFn K (.ref g) = true)
    (ni : wpAny (model prog w) A (call (.builtin id) [a, .ref x]) (fun v s' => v = .notImplemented ∧ s' = s) E s)
    (h : wpAny (model prog w) A (call (.ref g) [.ref x, a]) (PySem.W.CmpBack Q) E s) : wpAny (model prog w) A (richCompare .Eq a (.ref x)) Q E s := by
  have LT : PySem.W.Looks (model prog w) s.heap (typeOf (.ref x)) (.ref C) := I.type
  have none1 : wpAny (model prog w) A (tryCompare a (Str.ofString "__eq__") (.ref x)) (fun r s' => r = none ∧ s' = s) E s := by
    unfold tryCompare
    refine wpAny_bind ?_
    simp only [callSpecialIfBound?, bindSpecialIfBound?]
    refine wpAny_holding (wpAny_bind (wpAny_bind (wpAny_specialOf hT sl.lookup ?_)))
    simp only [sl.bind]
    have fin : wpAny (model prog w) A (call (.builtin id) ([a] ++ [.ref x]) >>= fun v => pure (some v)) (fun r s' => wpAny (model prog w) A (match r with | some .notImplemented | none => pure none | some v => pure (some v)) (fun r s' => r = none ∧ s' = s) E s') E s := by
      refine wpAny_bind (wpAny_mono ni (fun v s' hv => wpAny_pure ?_) fun _ _ z => z)
      obtain ⟨rfl, rfl⟩ := hv
      exact wpAny_pure ⟨rfl, rfl⟩
    refine wpAny_bind (wpAny_askSetting (wpAny_ite ?_))
    split
    · exact wpAny_bind (wpAny_pure (wpAny_pure (by exact fin)))
    · exact wpAny_tryCatch (wpAny_bind (wpAny_pure (wpAny_pure (by exact fin))))
  have two : wpAny (model prog w) A (tryCompare (.ref x) (Str.ofString "__eq__") a) (fun r s' => ∃ v, r = some v ∧ Q v s') E s := by
    unfold tryCompare
    refine wpAny_bind (PySem.W.ifBound_K X I hs hf (wpAny_mono h (fun v s' hv => ?_) fun _ _ e => e))
    cases v <;> first | exact hv.elim | exact wpAny_pure ⟨_, rfl, hv⟩
  unfold richCompare
  simp only [hT.oneThing_none]
  refine wpAny_holding (wpAny_bind (wpAny_cRoomFor hu ?_))
  refine wpAny_bind (wpAny_typeOf hT (wpAny_bind (LT.here ?_)))
  rw [if_pos (show (Value.type T != Value.ref C) = true from by simp)]
  refine wpAny_bind ((PySem.W.looks_subIn X hsub).here ?_)
  simp only [Bool.false_eq_true, if_false]
  refine wpAny_bind (wpAny_mono none1 (fun r s' z => ?_) fun _ _ e => e)
  obtain ⟨rfl, rfl⟩ := z
  show wpAny _ _ (tryCompare (.ref x) (Str.ofString "__eq__") a >>= _) _ _ _
  refine wpAny_bind (wpAny_mono two (fun r s' z => ?_) fun _ _ e => e)
  obtain ⟨v, rfl, hq⟩ := z
  exact wpAny_pure hq
end
end Own

namespace Own
open PySem PySem.Spec PySem.Calls PyProof.Rows L2
section
variable {prog : Program} {w : World} {K : PySem.W.Frag} {x C dx : Addr} {od : Option Obj} {s : Shared} {A : Around} {E : Value → Shared → Prop}
theorem ni_of {T id : String} {B : Builtin} {a : Value} (sl : Slot T (Str.ofString "__eq__") id) (hT : s.TypeIs a T) (en : entryFor table id = some B) (ar : argsOk id ⟨[a, .ref x], []⟩)
    (body : wpAny (model prog w) A.in1 (B ⟨[a, .ref x], []⟩) (fun fin s' => fin = .done (.ret .notImplemented) ∧ s' = s) (fun _ _ => False) s) :
    wpAny (model prog w) A (call (.builtin id) [a, .ref x]) (fun v s' => v = .notImplemented ∧ s' = s) E s :=
  wpAny_call (codeAny_call_builtin sl.plain en (sl.check _ _ _ _ _ _ _ _ hT ar (wpAny_mono body (fun fin s' z => by
    obtain ⟨rfl, rfl⟩ := z
    exact ⟨rfl, rfl⟩) fun _ _ z => z.elim)))
theorem ni_none : wpAny (model prog w) A (call (.builtin "NoneType.__eq__") [.none, .ref x]) (fun v s' => v = .notImplemented ∧ s' = s) E s :=
  ni_of F.slot_NoneType_eq rfl F.entry_NoneType_eq (F.args_NoneType_eq_2 _ _) (by
    obtain ⟨hp, g, d, tk, os⟩ := s
    wp_walk
    exact ⟨rfl, rfl⟩)
theorem ni_str {y : Str} {t : Tok} (hx : s.heap.get? x = some (PySem.W.instObj C dx)) : wpAny (model prog w) A (call (.builtin "str.__eq__") [.str y t, .ref x]) (fun v s' => v = .notImplemented ∧ s' = s) E s :=
  ni_of F.slot_str_eq rfl F.entry_str_eq (F.args_str_eq_2 _ _) (by
    obtain ⟨hp, g, d, tk, os⟩ := s
    have hx : hp.get? x = some (PySem.W.instObj C dx) := hx
    unfold PySem.W.instObj at hx
    wp_walk using wpAny_loadPart' hx
    exact ⟨rfl, rfl⟩)
theorem ni_int {y : Int} {t : Tok} (hx : s.heap.get? x = some (PySem.W.instObj C dx)) : wpAny (model prog w) A (call (.builtin "int.__eq__") [.int y t, .ref x]) (fun v s' => v = .notImplemented ∧ s' = s) E s :=
  ni_of F.slot_int_eq rfl F.entry_int_eq (F.args_int_eq_2 _ _) (by
    obtain ⟨hp, g, d, tk, os⟩ := s
    have hx : hp.get? x = some (PySem.W.instObj C dx) := hx
    unfold PySem.W.instObj at hx
    wp_walk using wpAny_loadPart' hx
    exact ⟨rfl, rfl⟩)
theorem ni_bool {y : Bool} (hx : s.heap.get? x = some (PySem.W.instObj C dx)) : wpAny (model prog w) A (call (.builtin "int.__eq__") [.bool y, .ref x]) (fun v s' => v = .notImplemented ∧ s' = s) E s :=
  ni_of F.slot_bool_eq rfl F.entry_int_eq (F.args_int_eq_2 _ _) (by
    obtain ⟨hp, g, d, tk, os⟩ := s
    have hx : hp.get? x = some (PySem.W.instObj C dx) := hx
    unfold PySem.W.instObj at hx
    wp_walk using wpAny_loadPart' hx
    exact ⟨rfl, rfl⟩)
theorem ni_list {l : Addr} {o : Obj} (hl : s.heap.get? l = some o) (hc : o.cls = .type "list") (X : K.In s.heap) (I : PySem.W.InstAt s.heap x (PySem.W.instObj C dx) C od) (hs : PySem.W.subIn K (.ref C) (.type "list") = some false) :
    wpAny (model prog w) A (call (.builtin "list.__eq__") [.ref l, .ref x]) (fun v s' => v = .notImplemented ∧ s' = s) E s :=
  ni_of F.slot_list_eq ⟨o, hl, hc⟩ F.entry_list_eq (F.args_list_eq_2 _ _) (by
    have L : PySem.W.Looks (model prog w) s.heap (isInstance (.ref x) (.type "list")) false := I.type.andThen (PySem.W.looks_subIn X hs)
    show wpAny _ _ (do if !(← isInstance (.ref x) (.type "list")) then return ← ret .notImplemented else _) _ _ _
    refine wpAny_bind (L.here ?_)
    exact wpAny_bind (wpAny_pure (wpAny_pure ⟨rfl, rfl⟩)))
theorem ni_tup {l : Addr} {o : Obj} (hl : s.heap.get? l = some o) (hc : o.cls = .type "tuple") (X : K.In s.heap) (I : PySem.W.InstAt s.heap x (PySem.W.instObj C dx) C od) (hs : PySem.W.subIn K (.ref C) (.type "tuple") = some false) :
    wpAny (model prog w) A (call (.builtin "tuple.__eq__") [.ref l, .ref x]) (fun v s' => v = .notImplemented ∧ s' = s) E s :=
  ni_of F.slot_tuple_eq ⟨o, hl, hc⟩ F.entry_tuple_eq (F.args_tuple_eq_2 _ _) (by
    have L : PySem.W.Looks (model prog w) s.heap (isInstance (.ref x) (.type "tuple")) false := I.type.andThen (PySem.W.looks_subIn X hs)
    show wpAny _ _ (do if !(← isInstance (.ref x) (.type "tuple")) then return ← ret .notImplemented else _) _ _ _
    refine wpAny_bind (L.here ?_)
    exact wpAny_bind (wpAny_pure (wpAny_pure ⟨rfl, rfl⟩)))
theorem ni_dict {l : Addr} {es : Array DictEntry} {n : Nat} {dd : Option Addr} {sl : Array (Option Value)} (hl : s.heap.get? l = some { cls := .type "dict", dict := dd, data := .dict es n, slots := sl }) (hm : (l == sysModules) = false) (X : K.In s.heap) (I : PySem.W.InstAt s.heap x (PySem.W.instObj C dx) C od)
    (hs : PySem.W.subIn K (.ref C) (.type "dict") = some false) :
    wpAny (model prog w) A (call (.builtin "dict.__eq__") [.ref l, .ref x]) (fun v s' => v = .notImplemented ∧ s' = s) E s :=
  ni_of F.slot_dict_eq ⟨_, hl, rfl⟩ F.entry_dict_eq (F.args_dict_eq_2 _ _) (by
    have L : PySem.W.Looks (model prog w) s.heap (isInstance (.ref x) (.type "dict")) false := I.type.andThen (PySem.W.looks_subIn X hs)
    obtain ⟨hp, g, d, tk, os⟩ := s
    have hl : hp.get? l = some { cls := .type "dict", dict := dd, data := .dict es n, slots := sl } := hl
    wp_walk using wpAny_loadPart' hl
    refine wpAny_loadPart I.1 (wpAny_pure ?_)
    refine (PySem.W.looks_subIn X hs).here ?_
    wp_walk
    exact ⟨rfl, rfl⟩)
end
end Own

namespace Own
open PySem PySem.Spec PySem.Calls PyProof.Rows L2
/-- the class is below none of these -/
structure NotB (K : PySem.W.Frag) (C : Addr) : Prop where
  non : PySem.W.subIn K (.ref C) (.type "NoneType") = some false
  int : PySem.W.subIn K (.ref C) (.type "int") = some false
  bl : PySem.W.subIn K (.ref C) (.type "bool") = some false
  str : PySem.W.subIn K (.ref C) (.type "str") = some false
  lst : PySem.W.subIn K (.ref C) (.type "list") = some false
  tup : PySem.W.subIn K (.ref C) (.type "tuple") = some false
  dct : PySem.W.subIn K (.ref C) (.type "dict") = some false
/-- a builtin thing -/
def Bi (H : Hp) (a : V) : Prop := a = .non ∨ (∃ i, a = .int i) ∨ (∃ b, a = .bl b) ∨ (∃ y, a = .str y) ∨ (∃ l xs, a = .ref l ∧ H l = some (.lst xs)) ∨ (∃ l xs, a = .ref l ∧ H l = some (.tup xs)) ∨ ∃ l kvs, a = .ref l ∧ H l = some (.dK kvs)
section
variable {X : Cx} {CX : CXT} {C g : Addr} {n : Nat} {sp : Sp} {E : XK}
theorem op_eqR (B : NotB X.K C) (hs : PySem.W.findIn X.K (.ref C) "__eq__" = some (some (.ref g))) (hf : PySem.W.isFn X.K (.ref g) = true) (F : FnR X.prog X.w X.K X.mg X.base CX n g sp) (hr : Room n X.A) (hx : Passes CX X E) :
    OpR X (compareOp .Eq) (fun a y H Q => ∃ x dx fs, y = .ref x ∧ H x = some (.ins C dx fs) ∧ Bi H a ∧ sp [.ref x, a] H Q E) := by
  intro pins s σ H a y va u Q I ra ry h
  obtain ⟨x, dx, fs, rfl, ha, bi, q⟩ := h
  cases (show u = Value.ref x from ry)
  obtain ⟨od, J⟩ := inst_of I ha
  have hu : X.A.units < cLine := hr.units0
  have run : wpAny (model X.prog X.w) X.A (call (.ref g) [.ref x, va]) (PySem.W.CmpBack (EP X pins σ Q)) X.xe s := by
    refine wpAny_mono (run_g (us := [.ref x, va]) (vs := [.ref x, a]) F hr hx I (.cons rfl (.cons ra .nil)) q) (fun w s' z => ?_) fun _ _ x => x
    obtain ⟨z', H', I', rz, qz⟩ := z
    exact SlX.cmpback rz ⟨z', H', I', rz, qz⟩
  show wpAny _ _ (richCompare .Eq va (.ref x)) _ _ s
  rcases bi with rfl | ⟨i, rfl⟩ | ⟨b, rfl⟩ | ⟨y, rfl⟩ | ⟨l, xs, rfl, hl⟩ | ⟨l, xs, rfl, hl⟩ | ⟨l, kvs, rfl, hl⟩
  · cases (show va = Value.none from ra)
    exact eq_refl_K hu I.kIn J rfl PySem.F.slot_NoneType_eq.toG B.non hs hf ni_none run
  · obtain ⟨tk, rfl⟩ := (show ∃ tk, va = Value.int i tk from ra)
    exact eq_refl_K hu I.kIn J rfl PySem.F.slot_int_eq.toG B.int hs hf (ni_int J.1) run
  · cases (show va = Value.bool b from ra)
    exact eq_refl_K hu I.kIn J rfl PySem.F.slot_bool_eq.toG B.bl hs hf (ni_bool J.1) run
  · obtain ⟨tk, rfl⟩ := (show ∃ tk, va = Value.str y tk from ra)
    exact eq_refl_K hu I.kIn J rfl PySem.F.slot_str_eq.toG B.str hs hf (ni_str J.1) run
  · cases (show va = Value.ref l from ra)
    obtain ⟨_, its, n', r, _, e⟩ := I.lstM hl
    exact eq_refl_K hu I.kIn J ⟨_, e, rfl⟩ PySem.F.slot_list_eq.toG B.lst hs hf (ni_list e rfl I.kIn J B.lst) run
  · cases (show va = Value.ref l from ra)
    obtain ⟨_, its, r, o, ho, hc, n', hd⟩ := I.hok l _ hl
    exact eq_refl_K hu I.kIn J ⟨o, ho, hc⟩ PySem.F.slot_tuple_eq.toG B.tup hs hf (ni_tup ho hc I.kIn J B.tup) run
  · cases (show va = Value.ref l from ra)
    obtain ⟨_, hm, vs, _, o, es, ep, ho, hc, hd, _⟩ := I.hok l _ hl
    obtain ⟨oc, od', oda, osl⟩ := o
    obtain ⟨h1, h2⟩ := hc
    dsimp only at h1 h2 hd
    subst h1 hd
    exact eq_refl_K hu I.kIn J ⟨_, ho, rfl⟩ PySem.F.slot_dict_eq.toG B.dct hs hf (ni_dict ho hm I.kIn J B.dct) run
end
end Own

namespace Own
open PySem PySem.Spec PySem.Calls PyProof.Rows L2
section
variable {X : Cx} {CX : CXT} {C g : Addr} {n : Nat} {sp : Sp} {E : XK}
theorem bi_looks {M : Model} {pins : List (Addr × Obj)} {σ : L2.St} {H : Hp} {s : Shared} {a : V} {va : Value} (I : L2.Inv X pins σ H s) (b : Bi H a) (ra : RelV a va) : ∃ T, PySem.W.Looks M s.heap (typeOf va) (.type T) ∧ PySem.W.notFirst X.K C (.type T) = true := by
  rcases b with rfl | ⟨i, rfl⟩ | ⟨b, rfl⟩ | ⟨y, rfl⟩ | ⟨l, xs, rfl, hl⟩ | ⟨l, xs, rfl, hl⟩ | ⟨l, kvs, rfl, hl⟩
  · cases (show va = Value.none from ra)
    exact ⟨"NoneType", .now, by rfl⟩
  · obtain ⟨tk, rfl⟩ := (show ∃ tk, va = Value.int i tk from ra)
    exact ⟨"int", .now, by rfl⟩
  · cases (show va = Value.bool b from ra)
    exact ⟨"bool", .now, by rfl⟩
  · obtain ⟨tk, rfl⟩ := (show ∃ tk, va = Value.str y tk from ra)
    exact ⟨"str", .now, by rfl⟩
  · cases (show va = Value.ref l from ra)
    obtain ⟨_, its, n', r, _, e⟩ := I.lstM hl
    exact ⟨"list", fun _ _ _ _ k q => wpAny_typeOf_ref (k _ _ e) q, by rfl⟩
  · cases (show va = Value.ref l from ra)
    obtain ⟨_, its, r, o, ho, hc, n', hd⟩ := I.hok l _ hl
    exact ⟨"tuple", fun _ _ _ _ k q => wpAny_typeOf_ref (k _ _ ho) (by rw [hc]; exact q), by rfl⟩
  · cases (show va = Value.ref l from ra)
    obtain ⟨_, hm, vs, _, o, es, ep, ho, hc, hd, _⟩ := I.hok l _ hl
    exact ⟨"dict", fun _ _ _ _ k q => wpAny_typeOf_ref (k _ _ ho) (by rw [hc.1]; exact q), by rfl⟩
theorem op_eqL (hs : PySem.W.findIn X.K (.ref C) "__eq__" = some (some (.ref g))) (hf : PySem.W.isFn X.K (.ref g) = true) (F : FnR X.prog X.w X.K X.mg X.base CX n g sp) (hr : Room n X.A) (hx : Passes CX X E) :
    OpR X (compareOp .Eq) (fun y a H Q => ∃ x dx fs, y = .ref x ∧ H x = some (.ins C dx fs) ∧ Bi H a ∧ sp [.ref x, a] H Q E) := by
  intro pins s σ H y a u va Q I ry ra h
  obtain ⟨x, dx, fs, rfl, ha, bi, q⟩ := h
  cases (show u = Value.ref x from ry)
  obtain ⟨od, J⟩ := inst_of I ha
  obtain ⟨T, L, nf⟩ := bi_looks (C := C) (M := model X.prog X.w) I bi ra
  obtain ⟨m, hF⟩ := I.fr
  show wpAny _ _ (richCompare .Eq (.ref x) va) _ _ s
  refine PySem.W.cmp_K (op := .Eq) hr.units0 hF I.ok.mod.kin J L nf hs hf ?_
  refine wpAny_mono (run_g (us := [.ref x, va]) (vs := [.ref x, a]) F hr hx I (.cons rfl (.cons ra .nil)) q) (fun w s' z => ?_) fun _ _ x => x
  obtain ⟨z', H', I', rz, qz⟩ := z
  exact SlX.cmpback rz ⟨z', H', I', rz, qz⟩
theorem op_neL (hne : PySem.W.findIn X.K (.ref C) "__ne__" = some (some (.builtin "object.__ne__"))) (hsub : PySem.W.subIn X.K (.ref C) (.type "object") = some true) (hs : PySem.W.findIn X.K (.ref C) "__eq__" = some (some (.ref g))) (hf : PySem.W.isFn X.K (.ref g) = true)
    (F : FnR X.prog X.w X.K X.mg X.base CX n g sp) (hr : Room (n + 1) X.A) (hx : Passes CX X E) :
    OpR X (compareOp .NotEq) (fun y a H Q => ∃ x dx fs, y = .ref x ∧ H x = some (.ins C dx fs) ∧ Bi H a ∧ sp [.ref x, a] H (fun z H' => ∃ k, z = .bl k ∧ Q (.bl (!k)) H') E) := by
  intro pins s σ H y a u va Q I ry ra h
  obtain ⟨x, dx, fs, rfl, ha, bi, q⟩ := h
  cases (show u = Value.ref x from ry)
  obtain ⟨od, J⟩ := inst_of I ha
  obtain ⟨T, L, nf⟩ := bi_looks (C := C) (M := model X.prog X.w) I bi ra
  show wpAny _ _ (richCompare .NotEq (.ref x) va) _ _ s
  refine ne_K (by have := hr.un; omega) I.kIn J L nf hne hs hf hsub ?_
  refine wpAny_mono (run_g1 (us := [.ref x, va]) (vs := [.ref x, a]) F hr hx I (.cons rfl (.cons ra .nil)) q) (fun w s' z => ?_) fun _ _ x => x
  obtain ⟨_, H', I', rz, k, rfl, qz⟩ := z
  cases (show w = Value.bool k from rz)
  exact ⟨k, rfl, .bl (!k), H', I', rfl, qz⟩
end
end Own

namespace Own
open PySem PySem.Spec PySem.Calls PyProof.Rows L2
/-- the same, the def's own object told (its code object is needed where it makes lambdas) -/
theorem fnG_lk {P : Program} {w : World} {K : PySem.W.Frag} {mg : Str → Option Value} {base : Heap} {CX : CXT} {k : Nat} {f : Addr} {x qual : Str} {st : Stmt} {ps N : List Str} {sp : Sp} {oc kV doc pm cdv ct : Value} {od an : Option Addr} {osl : Array (Option Value)}
    (lk : K.lookup f = some ⟨oc, od, .func (PySem.W.fnOf x qual (defArgs st) (defBody st) (defScope st) .none kV doc pm an cdv ct), osl⟩) (hcd : PySem.W.codeIn K cdv qual = true) (S : FnScope N ps (defScope st))
    (hb : L2.Binds K (PySem.W.fnOf x qual (defArgs st) (defBody st) (defScope st) .none kV doc pm an cdv ct) ps []) (len : ∀ vs H Q E, sp vs H Q E → vs.length = ps.length)
    (body : ∀ (A : Around) (outer : List Env) (s : Shared) (H : Hp) (vs : List V) (Q : VK) (E : XK), Room k (A.deeper (envOfC qual (defScope st) s.heap.objs.size f cdv)) → (A.deeper (envOfC qual (defScope st) s.heap.objs.size f cdv)).guards = some [] → sp vs H Q E →
      ∃ t, PSs (cxOf CX P w K mg base N qual (defScope st) f cdv A outer s H E) (defBody st) t ∧ t { nx := fun _ H' => Q .non H', rt := Q } (L2.start N vs) H) :
    FnG P w K mg base CX (k + 1) f sp := by
  intro A outer s H us vs Q E hr hg e0 r h
  have hl := len _ _ _ _ h
  have b := hb s us (e0.mod.kin.keeps fun b o e => (e0.bs b o e).1) (by rw [List.append_nil, ← r.length]; exact hl)
  rw [List.append_nil] at b
  exact LamX.run_ofS lk hcd S hr e0 b r hl fun hr' => body A outer s H vs Q E hr' hg h
end Own

/-! The law's call, by a promise that holds while no repr is under way. -/
namespace Own
open PySem PySem.Spec PySem.Calls PyProof.Rows L2 LamX
abbrev tabO : Obj := { cls := .none, data := .fields #[] }
abbrev scrO (vs : List Value) : Obj := { cls := .type "list", data := .seq vs.toArray }
/-- the told heap at the beginning: some empty tables, and perhaps the script, locked -/
structure Begun (K : PySem.W.Frag) (h : Heap) (cs : List (Addr × Addr)) (a : Addr) (vs : List Value) (ns : List Int) (H : Hp) : Prop where
  tabs : ∀ p ∈ cs, H p.2 = some (.tbl #[])
  only : ∀ b u, H b = some u → K.lookup b = none ∧ ((u = .tbl #[] ∧ h.get? b = some tabO ∧ ∃ p ∈ cs, p.2 = b) ∨ (u = .frz (scrO vs) (.lst (ns.map V.int)) ∧ h.get? b = some (scrO vs)))
  scr : SqL K H a (ns.map V.int)
section
variable {P : Program} {w : World} {K : PySem.W.Frag} {h : Heap} {cs : List (Addr × Addr)} {a : Addr} {vs : List Value} {ns : List Int} {H : Hp}
theorem begun (KX : K.In h) (hT : ∀ p ∈ cs, h.get? p.2 = some tabO ∧ K.lookup p.2 = none) (ha : h.get? a = some (scrO vs)) (hi : IntsAre vs ns) (hl : ns.length ≤ sizeLine) : ∃ H, Begun K h cs a vs ns H := by
  have isTab : ∀ b, (cs.any fun p => p.2 == b) = true → h.get? b = some tabO ∧ K.lookup b = none := by
    intro b e
    obtain ⟨p, hp, e⟩ := List.any_eq_true.mp e
    rw [← (beq_iff_eq.mp e : p.2 = b)]
    exact hT p hp
  have aNo : (cs.any fun p => p.2 == a) = false := by
    cases e : cs.any fun p => p.2 == a with
    | false => rfl
    | true =>
      have z := (isTab a e).1
      rw [ha] at z
      injection z with z
      injection z with z1 z2
      cases z1
  let H : Hp := fun b => bif cs.any fun p => p.2 == b then some (.tbl #[]) else bif (b == a) && (K.lookup a).isNone then some (.frz (scrO vs) (.lst (ns.map V.int))) else none
  have atT : ∀ b, (cs.any fun p => p.2 == b) = true → H b = some (.tbl #[]) := fun b e => by
    show (bif _ then _ else _) = _
    rw [e]
    rfl
  have offT : ∀ b, (cs.any fun p => p.2 == b) = false → H b = bif (b == a) && (K.lookup a).isNone then some (.frz (scrO vs) (.lst (ns.map V.int))) else none := fun b e => by
    show (bif _ then _ else _) = _
    rw [e]
    rfl
  have memT : ∀ p ∈ cs, (cs.any fun q => q.2 == p.2) = true := fun p hp => List.any_eq_true.mpr ⟨p, hp, beq_self_eq_true _⟩
  refine ⟨H, fun p hp => atT _ (memT p hp), fun b u e => ?_, ?_⟩
  · cases eb : cs.any fun p => p.2 == b with
    | true =>
      rw [atT b eb] at e
      injection e with e
      obtain ⟨p, hp, ep⟩ := List.any_eq_true.mp eb
      exact ⟨(isTab b eb).2, .inl ⟨e.symm, (isTab b eb).1, p, hp, beq_iff_eq.mp ep⟩⟩
    | false =>
      rw [offT b eb] at e
      cases ec : (b == a) && (K.lookup a).isNone with
      | false =>
        rw [ec] at e
        cases e
      | true =>
        rw [ec] at e
        injection e with e
        obtain ⟨c1, c2⟩ := Bool.and_eq_true_iff.mp ec
        have c1 : b = a := beq_iff_eq.mp c1
        subst c1
        exact ⟨Option.isNone_iff_eq_none.mp c2, .inr ⟨e.symm, ha⟩⟩
  · have rv := vals_ints hi
    cases hk : K.lookup a with
    | some o =>
      have e := KX a o hk
      rw [ha] at e
      injection e with e
      subst e
      exact .inr ⟨scrO vs, vs.toArray, _, hk, rfl, rfl, rfl, by rw [List.size_toArray, hi.length]; exact hl, by simpa using rv⟩
    | none =>
      refine .inl (.inr ⟨scrO vs, ?_⟩)
      rw [offT a aNo, hk, beq_self_eq_true]
      rfl
namespace Begun
theorem ok (B : Begun K h cs a vs ns H) (hi : IntsAre vs ns) (hl : ns.length ≤ sizeLine) : HOk P w H h := fun b u e => by
  obtain ⟨_, q⟩ := B.only b u e
  rcases q with ⟨rfl, g, _⟩ | ⟨rfl, g⟩
  · exact g
  · exact ⟨g, by rw [List.length_map]; exact hl, vs, _, vals_ints hi, g⟩
/-- what is neither a table nor the script is not told -/
theorem off (B : Begun K h cs a vs ns H) {b : Addr} {o : Obj} (e : h.get? b = some o) (h1 : o ≠ tabO) (h2 : o ≠ scrO vs) : H b = none := by
  cases q : H b with
  | none => rfl
  | some u =>
    obtain ⟨_, z⟩ := B.only b u q
    rcases z with ⟨_, g, _⟩ | ⟨_, g⟩
    · rw [e] at g
      injection g with g
      exact absurd g h1
    · rw [e] at g
      injection g with g
      exact absurd g h2
theorem there (B : Begun K h cs a vs ns H) {b : Addr} {o : Obj} (e : h.get? b = some o) (h1 : o ≠ tabO) (h2 : o ≠ scrO vs) : (hidT h H).get? b = some o := hidT_get e (B.off e h1 h2)
theorem nsB (B : Begun K h cs a vs ns H) {b : Addr} {m : Str → Option Value} (n : h.Ns b m) : (hidT h H).Ns b m := by
  obtain ⟨o, es, ep, e, d, r⟩ := n
  refine ⟨o, es, ep, B.there e (fun z => ?_) (fun z => ?_), d, r⟩
  · rw [z] at d
    cases d
  · rw [z] at d
    cases d
theorem kin (B : Begun K h cs a vs ns H) (KX : K.In h) : K.In (hidT h H) := fun b o e => hidT_get (KX b o e) (by
  cases q : H b with
  | none => rfl
  | some u =>
    have z := (B.only b u q).1
    rw [e] at z
    cases z)
end Begun
end
section
variable {P : Program} {w : World} {K : PySem.W.Frag} {mg mb : Str → Option Value} {q : Program} {loose : List Str} {mean : ExcName → Option Value}
theorem base_mod {H : Hp} {h : Heap} {cs : List (Addr × Addr)} {a : Addr} {vs : List Value} {ns : List Int} (B : Begun K h cs a vs ns H) (KX : K.In h) (T : Top q loose mean mg mb h) : L2.Mod K mg (hidT h H) := by
  obtain ⟨mc, h1, h2⟩ := T.nolimit
  exact { kin := B.kin KX, glob := B.nsB T.g, blt := ⟨mb, B.nsB T.b, T.builtins⟩, nolimit := ⟨mc, B.nsB h1, h2⟩ }
theorem base_tab {H : Hp} {h : Heap} {cs : List (Addr × Addr)} {a : Addr} {vs : List Value} {ns : List Int} (B : Begun K h cs a vs ns H) (T : Top q loose mean mg mb h) {c p : Addr} (hT : h.get? p = some tabO) (C : PySem.W.CodeHd h c p) : TabB (hidT h H) mg c p := by
  refine { code := ?_, bm := ?_, gP := ?_ }
  · obtain ⟨o, us, file, tf, flags, tg, inF, text, tt, e, cl, d, r⟩ := C
    refine ⟨o, us, file, tf, flags, tg, inF, text, tt, B.there e (fun z => ?_) (fun z => ?_), cl, d, r⟩
    · rw [z] at cl
      cases cl
    · rw [z] at d
      cases d
  · obtain ⟨bm, ob, b1, b2, b3, b4, b5, b6⟩ := T.bmain
    have g : (hidT h H).get? bm = some ob := B.there b3 (fun z => by rw [z] at b6; cases b6) (fun z => by rw [z] at b6; cases b6)
    refine ⟨bm, ob, b1, b2, fun z => ?_, fun z => ?_, g, b4, b5, b6⟩
    · obtain ⟨o, es, ep, e, d, _⟩ := T.g
      rw [← z, b3] at e
      injection e with e
      rw [← e, b6] at d
      cases d
    · rw [← z, b3] at hT
      injection hT with hT
      rw [hT] at b6
      cases b6
  · intro z
    obtain ⟨o, es, ep, e, d, _⟩ := T.g
    rw [z, hT] at e
    injection e with e
    rw [← e] at d
    cases d
theorem end_old {h h' : Heap} {cs : List (Addr × Addr)} {a : Addr} {vs : List Value} {ns : List Int} {H H' : Hp} (B : Begun K h cs a vs ns H) (un : Un [] [] H H' h h') (ok' : HOk P w H' h') (C : ∀ p ∈ cs, PySem.W.CodeHd h p.1 p.2) : OldK h h' := by
  have each : ∀ b o, h.get? b = some o → asItWas h h' b o ∧ ∃ o', h'.get? b = some o' := fun b o e => by
    cases z : H b with
    | none =>
      have k := un.keep b o e z List.not_mem_nil List.not_mem_nil
      exact ⟨.inl k, o, k⟩
    | some u =>
      obtain ⟨_, y⟩ := B.only b u z
      rcases y with ⟨rfl, g, p, hp, rfl⟩ | ⟨rfl, g⟩
      · obtain ⟨more, m⟩ := un.tbls _ #[] z
        have k : h'.get? p.2 = some { cls := .none, data := .fields (#[] ++ more) } := ok' _ _ m
        rw [e] at g
        injection g with g
        subst g
        exact ⟨.inr (.inl ⟨((C p hp).tab e).isCodeTable, rfl, #[], more, rfl, k⟩), _, k⟩
      · have k := (ok' b _ (un.frzs b _ _ z)).1
        rw [e] at g
        injection g with g
        rw [g]
        exact ⟨.inl k, _, k⟩
  exact { old := fun b o e => (each b o e).1, there := fun b o e => (each b o e).2 }
/-- the law's call: its def is worth sp, and sp says True -/
theorem call_lawG {s : Shared} {cs : List (Addr × Addr)} {fa a : Addr} {vs : List Value} {ns : List Int} {k : Nat} {sp : Sp} (KX : K.In s.heap) (T : Top q loose mean mg mb s.heap) (hg : s.gens = #[])
    (hC : ∀ p ∈ cs, s.heap.get? p.2 = some tabO ∧ K.lookup p.2 = none ∧ PySem.W.CodeHd s.heap p.1 p.2) (ha : s.heap.get? a = some (scrO vs)) (hi : IntsAre vs ns) (hl : ns.length ≤ sizeLine) (hr : Room k callerA)
    (F : ∀ base : Heap, K.In base → base.Ns mainGlobals mg → (∀ p ∈ cs, TabB base mg p.1 p.2) → FnG P w K mg base CX0 k fa sp)
    (hsp : ∀ H : Hp, (∀ p ∈ cs, H p.2 = some (.tbl #[])) → SqL K H a (ns.map V.int) → sp [.ref a] H (fun v _ => v = .bl true) fun _ _ _ => False) :
    codeAny (model P w) callerA (.call (.ref fa) ⟨[.ref a], []⟩) (fun r s' => r = .ok (.ret (.bool true)) ∧ OldK s.heap s'.heap ∧ s'.os = s.os ∧ AllBare s'.gens) s := by
  obtain ⟨H, B⟩ := begun (cs := cs) KX (fun p hp => ⟨(hC p hp).1, (hC p hp).2.1⟩) ha hi hl
  have ok : HOk P w H s.heap := B.ok hi hl
  have M := base_mod B KX T
  have G := F (hidT s.heap H) M.kin M.glob fun p hp => base_tab B T (hC p hp).1 (hC p hp).2.2
  have E0 : Env0 P w K mg (hidT s.heap H) callerA [] s H :=
    { frames := rfl, mod := M, bs := fun b o e => of_hidT e, bsz := Nat.le_of_eq (hidT_size _ _), funs := trivial, frf := fun b hb => absurd hb List.not_mem_nil, hok := ok, bare := .of_eq hg }
  refine codeAny_mono (G callerA [] s H [.ref a] [.ref a] _ _ hr rfl E0 (.cons rfl .nil) (hsp H B.tabs B.scr)) fun r s' z => ?_
  match r, z with
  | .ok (.ret u), z =>
    obtain ⟨v, H', os, bare, un, ok', rel, e⟩ := z
    have e : v = .bl true := e
    rw [e] at rel
    have rel : u = Value.bool true := rel
    rw [rel]
    exact ⟨rfl, end_old B un ok' (fun p hp => (hC p hp).2.2), os, bare⟩
  | .error e, z => exact absurd z id
end
theorem tabIn_of {K : PySem.W.Frag} {x : Str} {f c p : Addr} {oc e : Value} {od dd : Option Addr} {fd : FuncData} {sl sl2 : Array (Option Value)} {vs : Array Value} (h1 : PySem.W.nsIn K mainGlobals x = some (some (.ref f))) (h2 : K.lookup f = some ⟨oc, od, .func fd, sl⟩) (h3 : fd.code = .ref c)
    (h4 : K.lookup c = some ⟨e, dd, .fields vs, sl2⟩) (h5 : vs[11]? = some (.ref p)) : PySem.W.tabIn K x = some (c, p) := by
  unfold PySem.W.tabIn
  simp only [h1, h2, h3, h4, h5]
/-- the tables of the defs at the top are empty -/
def TabsOf (q : Program) (K : PySem.W.Frag) (h : Heap) : Prop := ∀ (x : Str) (c p : Addr), ((recsOf q).find? fun e => e.name == x).isSome = true → PySem.W.tabIn K x = some (c, p) → PySem.W.CodeHd h c p ∧ h.get? p = some tabO
def LawG (l : PySem.W.OpenLaw) (w : World) (K : PySem.W.Frag) (k n : Nat) (mg : Str → Option Value) (fa : Addr) (h : Heap) : Prop :=
  ∃ (cs : List (Addr × Addr)) (sp : Sp), (∀ p ∈ cs, h.get? p.2 = some tabO ∧ K.lookup p.2 = none ∧ PySem.W.CodeHd h p.1 p.2) ∧
    (∀ (H : Hp) (a : Addr) (ns : List Int), ns.length ≤ n → (∀ p ∈ cs, H p.2 = some (.tbl #[])) → SqL K H a (ns.map V.int) → sp [.ref a] H (fun v _ => v = .bl true) fun _ _ _ => False) ∧
    ∀ base : Heap, K.In base → base.Ns mainGlobals mg → (∀ p ∈ cs, TabB base mg p.1 p.2) → FnG l.prog w K mg base CX0 k fa sp
theorem walk_G {l : PySem.W.OpenLaw} {n k : Nat} {q : Program} {loose : List Str} {XP : (Str → Option Value) → Heap → Prop} {YP : World → Heap → Prop} {d : DefRec} {K : Params → PySem.W.Frag}
    (hn : l.most = some n) (hn2 : n ≤ sizeLine) (hdf : d.params.defaults = []) (hr : Room k callerA) (hY : ∀ (w : World) (h : Heap), YP w h → (K w.params).In h)
    (F : ∀ (w : World) (mg : Str → Option Value) (fa : Addr) (h : Heap), (K w.params).In h → h.Ns mainGlobals mg → mg d.name = some (.ref fa) → TabsOf q (K w.params) h → LawG l w (K w.params) k n mg fa h) :
    PySem.W.WalkO q loose XP YP l.row.toRowW d [] (fun f vs => PySem.call f vs) := by
  refine Att.attach_callB hn hdf ?_
  intro w s₀ s₁ mg mb fa o pm cd doc a vs ns G Y _ _ _ hm hs hi hlen _ hg
  have X := hY w _ Y
  have T : TabsOf q (K w.params) s₁.heap := fun x c p e ht => by
    obtain ⟨dd, hd⟩ := Option.isSome_iff_exists.mp e
    exact PySem.W.tab_of G.T X hd ht
  obtain ⟨cs, sp, hC, hsp, hF⟩ := F w mg fa _ X G.T.g hm T
  exact call_lawG X G.T hg hC hs hi (Nat.le_trans hlen hn2) hr hF fun H hT hS => hsp H a ns hlen hT hS
end Own

namespace Pl
open PySem L2 Own TL
def top (i : Nat) : Stmt := PySem.Challenge.pw_nearestsays_k04_places_ordered.main.body.getD i (.Pass ⟨0, 0, 0, 0⟩)
abbrev sIsInt : Stmt := top 8
abbrev sIsName : Stmt := top 9
abbrev sPText : Stmt := top 10
abbrev sIsPlace : Stmt := top 11
abbrev sPlace : Stmt := top 12
abbrev sInit : Stmt := inClass sPlace 1
abbrev sRead : Stmt := inClass sPlace 2
abbrev sOf : Stmt := inClass sPlace 3
abbrev sNames : Stmt := inClass sPlace 4
abbrev sText : Stmt := inClass sPlace 5
abbrev sUp : Stmt := inClass sPlace 6
abbrev sAdd : Stmt := inClass sPlace 7
abbrev sHead : Stmt := inClass sPlace 8
abbrev sCont : Stmt := inClass sPlace 9
abbrev sAnd : Stmt := inClass sPlace 10
abbrev sLen : Stmt := inClass sPlace 11
abbrev sBool : Stmt := inClass sPlace 12
abbrev sEq : Stmt := inClass sPlace 15
abbrev sAhead : Stmt := inClass sPlace 16
/-! ### names -/
def okN (s : Str) : Bool := decide (0 < s.length) && decide (s.length ≤ 8) && (tl s).all fun c => decide (c ∈ tl SIGNS)
def isNm : V → Bool
  | .str s => okN s
  | _ => false
/-- what stands of the builtins' names in the module -/
structure BT (mg : Str → Option Value) : Prop where
  isi : mg "isinstance" = none
  int : mg "int" = none
  bool : mg "bool" = none
  str : mg "str" = none
  len : mg "len" = none
  all : mg "all" = none
  zip : mg "zip" = none
  range : mg "range" = none
  enum : mg "enumerate" = none
  list : mg "list" = none
  abs : mg "abs" = none
structure GT (mg : Str → Option Value) : Prop where
  b : BT mg
  longest : ∃ t, mg "LONGEST_NAME" = some (.int 8 t)
/-! ### promises -/
def spIsInt (K : PySem.W.Frag) : Sp := fun vs H Q _ => ∃ x t b1 b2, vs = [x] ∧ TyX K H x t ∧ PySem.W.kitOne K t (.type "int") = some b1 ∧ PySem.W.kitOne K t (.type "bool") = some b2 ∧ Q (.bl (b1 && !b2)) H
def spIsName (K : PySem.W.Frag) : Sp := fun vs H Q _ => ∃ x, vs = [x] ∧ ((∃ s, x = .str s ∧ s.length ≤ sizeLine) ∨ (∃ t, TyX K H x t ∧ PySem.W.kitOne K t (.type "str") = some false ∧ isNm x = false)) ∧
  ∀ H', Same H H' → Q (.bl (isNm x)) H'
section
variable {P : Program} {w : World} {K : PySem.W.Frag} {mg : Str → Option Value} {base : Heap}
theorem scIsInt : FnScope ["value"] ["value"] (defScope sIsInt) := ⟨rfl, rfl, rfl, by decide +kernel, rfl, by decide +kernel, by decide +kernel⟩
theorem ok_isInt {f : Addr} {fd : FuncData} (F : Fun K "is_integer" "is_integer" sIsInt f fd) (T : BT mg) : FnOk P w K mg base CX0 1 f fd ["value"] (spIsInt K) := by
  refine F.ok scIsInt (fun vs H Q E h => ?_) (fun cdv A outer s H vs Q E hr h => ?_)
  · obtain ⟨x, t, b1, b2, rfl, _⟩ := h
    rfl
  · obtain ⟨x, t, b1, b2, rfl, ty, k1, k2, q⟩ := h
    refine ⟨_, pss_one (ps_ret (pe_and (pe_callB call_isi (by rfl) T.isi (by decide +kernel) (pa_cons (pv 0) (pa_cons (pe_bltn (v := .ty "int") (by rfl) T.int (by decide +kernel) rfl) pa_nil)))
      (pe_one (pe_not (pe_callB call_isi (by rfl) T.isi (by decide +kernel) (pa_cons (pv 0) (pa_cons (pe_bltn (v := .ty "bool") (by rfl) T.bool (by decide +kernel) rfl) pa_nil))))))), ?_⟩
    refine ⟨_, rfl, x, _, t, _, b1, rfl, .ty "int", ty, k1, b1, rfl, ?_⟩
    cases b1 with
    | true => exact iteT ⟨_, rfl, x, _, t, _, b2, rfl, .ty "bool", ty, k2, b2, rfl, q⟩
    | false => exact iteF q
theorem scIsName : FnScope ["value"] ["value"] (defScope sIsName) := ⟨rfl, rfl, rfl, by decide +kernel, rfl, by decide +kernel, by decide +kernel⟩
theorem ok_isName {f : Addr} {fd : FuncData} (F : Fun K "is_name" "is_name" sIsName f fd) (T : GT mg) : FnOk P w K mg base CX0 1 f fd ["value"] (spIsName K) := by
  refine F.ok scIsName (fun vs H Q E h => ?_) (fun cdv A outer s H vs Q E hr h => ?_)
  · obtain ⟨x, rfl, _⟩ := h
    rfl
  · obtain ⟨x, rfl, hx, q⟩ := h
    obtain ⟨tl8, h8⟩ := T.longest
    refine ⟨_, pss_cons (ps_if (PW.pt (pw_or (pt_not (pt_val (pe_callB call_isi (by rfl) T.b.isi (by decide +kernel) (pa_cons (pv 0) (pa_cons (pe_bltn (v := .ty "str") (by rfl) T.b.str (by decide +kernel) rfl) pa_nil)))))
        (pw_or1 (pt_not (pt_chain op_lt op_le pe_int (pe_callB call_len_str (by rfl) T.b.len PySem.boot_len (pa_cons (pv 0) pa_nil)) (pe_glob (v := .int 8) (by rfl) h8 ⟨_, rfl⟩))))))
        (pss_one (ps_ret pe_bl)) pss_nil)
      (pss_one (ps_ret (pe_and (pe_bm0 PySem.F.plainAttrs_str PySem.F.slot_str_isascii PySem.F.type_str_isascii mt_isascii (pv 0))
        (pe_and (pe_bm0 PySem.F.plainAttrs_str PySem.F.slot_str_isalnum PySem.F.type_str_isalnum mt_isalnum (pv 0))
        (pe_one (pe_cmpR op_eq (pv 0) (pe_bm0 PySem.F.plainAttrs_str PySem.F.slot_str_lower PySem.F.type_str_lower mt_lower (pv 0)) (nomark _))))))), ?_⟩
    rcases hx with ⟨z, rfl, hz⟩ | ⟨t, ty, kt, nz⟩
    · refine ⟨_, rfl, _, _, _, _, true, rfl, .ty "str", .base (.str z), kit_ty (by decide +kernel), true, rfl, ?_⟩
      refine iteF ?_
      refine ⟨_, rfl, z, rfl, hz, _, _, rfl, rfl, _, rfl, ite2 (fun h0 => ?_) (fun h0 => ?_)⟩
      · refine ⟨_, _, rfl, rfl, _, rfl, ite2 (fun h1 => ?_) (fun h1 => ?_)⟩
        · have e := q H (Same.refl H)
          have e2 : isNm (V.str z) = false := by
            show okN z = false
            unfold okN
            simp only [Bool.not_eq_true', decide_eq_false_iff_not] at h1
            rw [decide_eq_false (p := z.length ≤ 8) (by omega)]
            simp
          rw [e2] at e
          exact e
        · have e := q H (Same.refl H)
          simp only [decide_eq_true_eq] at h0
          simp only [Bool.not_eq_true', decide_eq_false_iff_not, Decidable.not_not] at h1
          have h1' : z.length ≤ 8 := by
            have := of_decide_eq_true (by simpa using h1 : decide ((z.length : Int) ≤ 8) = true)
            omega
          have h0' : 0 < z.length := by omega
          have e2 : isNm (V.str z) = (Txt.isascii z && (Txt.isalnum z && decide (z = Txt.lower z))) := by
            show okN z = _
            unfold okN
            rw [decide_eq_true h0', decide_eq_true h1', Bool.true_and, Bool.true_and, name_look h0']
          rw [e2] at e
          have l6 : z.length ≤ 5592405 := by omega
          refine ⟨_, rfl, rfl, z, rfl, rfl, trivial, _, rfl, ?_⟩
          cases c1 : Txt.isascii z with
          | false =>
            rw [c1] at e
            exact iteF e
          | true =>
            rw [c1] at e
            refine iteT ⟨_, rfl, rfl, z, rfl, rfl, trivial, _, rfl, ?_⟩
            cases c2 : Txt.isalnum z with
            | false =>
              rw [c2] at e
              exact iteF e
            | true =>
              rw [c2] at e
              refine iteT ⟨_, rfl, _, rfl, rfl, z, rfl, rfl, l6, rfl, ?_⟩
              have e3 : decide (V.str z = V.str (Txt.lower z)) = decide (z = Txt.lower z) := decide_eq_decide.mpr ⟨fun h => V.str.inj h, fun h => by rw [← h]⟩
              rw [e3]
              exact e
      · have e := q H (Same.refl H)
        have e2 : isNm (V.str z) = false := by
          show okN z = false
          unfold okN
          simp only [decide_eq_true_eq] at h0
          rw [decide_eq_false (p := 0 < z.length) (by omega)]
          rfl
        rw [e2] at e
        exact ⟨_, rfl, e⟩
    · refine ⟨_, rfl, x, _, t, _, false, rfl, .ty "str", ty, kt, false, rfl, ?_⟩
      refine iteT (iteT ?_)
      have e := q H (Same.refl H)
      rw [nz] at e
      exact e
end
end Pl

namespace Pl
open PySem L2 Own TL
/-! ### places -/
theorem nl1 : ¬ (("x" : Str) = "_names") := by decide +kernel
def pf (t : Addr) : List (Str × V) := putF "_names" (.ref t) []
theorem pf_at (t : Addr) : (pf t).lookup ("_names" : Str) = some (.ref t) := by
  unfold pf
  rw [lookup_putF, if_pos rfl]
theorem pf_no (t : Addr) {m : Str} (h : ¬ m = "_names") : (pf t).lookup m = none := by
  unfold pf
  rw [lookup_putF, if_neg h]
  all_goals rfl
/-- a place with these names stands at p -/
def PlA (C : Addr) (H : Hp) (p : Addr) (ns : List Str) : Prop := ∃ dx t, H p = some (.ins C dx (pf t)) ∧ H t = some (.tup (ns.map V.str))
theorem PlA.mono {C : Addr} {H H' : Hp} {p : Addr} {ns : List Str} (h : PlA C H p ns) (s : Same H H') : PlA C H' p ns := by
  obtain ⟨dx, t, a, b⟩ := h
  exact ⟨dx, t, s _ _ a, s _ _ b⟩
theorem ok_str {s : Str} (h : okN s = true) : PyData.strOk s = true := by
  unfold okN at h
  simp only [Bool.and_eq_true, decide_eq_true_eq, List.all_eq_true] at h
  have a : ∀ c ∈ tl SIGNS, c < 0x110000 := by decide +kernel
  unfold PyData.strOk
  rw [Array.all_eq_true']
  intro c hc
  exact decide_eq_true (a c (h.2 c (by simpa [tl] using hc)))
def Nms (ns : List Str) : Prop := ns.length ≤ 8 ∧ ∀ n ∈ ns, okN n = true
theorem okN_len {s : Str} (h : okN s = true) : 0 < s.length ∧ s.length ≤ 8 := by
  unfold okN at h
  simp only [Bool.and_eq_true, decide_eq_true_eq] at h
  exact h.1
theorem Nms.take {ns : List Str} (h : Nms ns) (k : Nat) : Nms (ns.take k) :=
  ⟨by
    have h1 := h.1
    rw [List.length_take]
    omega, fun n hn => h.2 n (List.mem_of_mem_take hn)⟩
theorem small8 {n : Nat} (h : n ≤ 10) : n ≤ sizeLine := Nat.le_trans h (by decide)
/-- facts of the class -/
structure CT (K : PySem.W.Frag) (mg : Str → Option Value) (C : Addr) (mc : Value) : Prop where
  cl : Cls K C
  nN : NoAttr K C "_names"
  mgC : mg "Place" = some (.ref C)
  rd : ClX.CRead K C mc
  most : ∃ u, ClX.CVal K C mc "MOST" (.int 8) u
  most2 : ∃ u, Con K C "MOST" (.int 8) u
  ha : PySem.W.findIn K (.ref C) "__class__" = some (some (.builtin "object.__class__"))
  hn : PySem.W.specialIn K (.builtin "object.__class__") "__get__" = some (some (.builtin "getset_descriptor.__get__"))
  htk : PySem.W.takesIn K (.builtin "object.__class__") = some true
  hm : PySem.W.mroIn K C (.type "object") = some true
  kS : PySem.W.kitOne K (.type "str") (.ref C) = some false
  kC : PySem.W.kitOne K (.ref C) (.ref C) = some true
  kCs : PySem.W.kitOne K (.ref C) (.type "str") = some false
theorem PlA.ty {K : PySem.W.Frag} {mg : Str → Option Value} {C : Addr} {mc : Value} (T : CT K mg C mc) {H : Hp} {p : Addr} {ns : List Str} (h : PlA C H p ns) : TyX K H (.ref p) (.ref C) := by
  obtain ⟨dx, t, a, b⟩ := h
  exact .base (.ins a T.cl T.ha T.hn T.htk T.hm)
/-! ### __init__ -/
def spInit (C : Addr) : Sp := fun vs H Q _ => ∃ (p dx t : Addr) (ns : List Str), vs = [.ref p, .ref t] ∧ H p = some (.ins C dx []) ∧ H t = some (.tup (ns.map V.str)) ∧ Nms ns ∧
  ∀ H', H' p = some (.ins C dx (pf t)) → (∀ b o, H b = some o → b ≠ p → H' b = some o) → Q .non H'
def spMk (C : Addr) : Sp := fun vs H Q E => ∃ v rest, vs = v :: rest ∧ rest.length ≤ 10 ∧ ∀ p, H p = none → spInit C [v, .ref p] (upd H p (.tup rest)) Q E
theorem make_ok {C : Addr} {H1 : Hp} {Q : VK} {E : XK} {ns : List Str} (hn : Nms ns) (k : ∀ p H', Same H1 H' → PlA C H' p ns → Q (.ref p) H') :
    ∀ x dx, H1 x = none → H1 dx = none → dx ≠ x → spMk C (V.ref x :: ns.map V.str) (upd (upd H1 dx (.own x)) x (.ins C dx [])) (fun v H2 => v = .non ∧ Q (.ref x) H2) E := by
  intro x dx hx hdx hne
  refine ⟨_, _, rfl, by rw [List.length_map]; exact Nat.le_trans hn.1 (by decide), fun t ht => ?_⟩
  have ntx : x ≠ t := fun e => by
    rw [← e, upd_same] at ht
    cases ht
  have ht1 : H1 t = none := by
    rw [upd_ne ntx.symm] at ht
    by_cases e : t = dx
    · rw [e]
      exact hdx
    · rw [upd_ne e] at ht
      exact ht
  refine ⟨x, dx, t, ns, rfl, by rw [upd_ne ntx]; exact upd_same, upd_same, hn, fun H' h1 h2 => ⟨rfl, k x H' (fun b o hb => ?_) ⟨dx, t, h1, h2 t _ upd_same ntx.symm⟩⟩⟩
  have nb1 : b ≠ x := ne_of_none hb hx
  refine h2 b o ?_ nb1
  rw [upd_ne (ne_of_none hb ht1), upd_ne nb1, upd_ne (ne_of_none hb hdx)]
  exact hb
/-- the same at one address, what follows as a word of the heap alone -/
theorem make_at {C : Addr} {H1 : Hp} {R : Hp → Prop} {E : XK} {ns : List Str} (hn : Nms ns) {x dx : Addr} (hx : H1 x = none) (hdx : H1 dx = none) (hne : dx ≠ x) (k : ∀ H', Same H1 H' → PlA C H' x ns → R H') :
    spMk C (V.ref x :: ns.map V.str) (upd (upd H1 dx (.own x)) x (.ins C dx [])) (fun v H2 => v = .non ∧ R H2) E := by
  have z := make_ok (C := C) (H1 := H1) (Q := fun v H' => v = .ref x → R H') (E := E) hn (fun p H' s P e => ?_) x dx hx hdx hne
  · obtain ⟨v, rest, e, hl, h⟩ := z
    refine ⟨v, rest, e, hl, fun p hp => ?_⟩
    obtain ⟨p', dx', t, ns', e1, h1, h2, h3, h4⟩ := h p hp
    exact ⟨p', dx', t, ns', e1, h1, h2, h3, fun H' g1 g2 => ⟨(h4 H' g1 g2).1, (h4 H' g1 g2).2 rfl⟩⟩
  · injection e with e
    subst e
    exact k H' s P
section
variable {P : Program} {w : World} {K : PySem.W.Frag} {mg : Str → Option Value} {base : Heap}
theorem scInit : FnScope ["self", "names", "name"] ["self", "names"] (defScope sInit) := ⟨rfl, rfl, rfl, by decide +kernel, rfl, by decide +kernel, by decide +kernel⟩
theorem ok_init {f C fN : Addr} {mc : Value} {fd fdN : FuncData} (F : Fun K "__init__" "Place.__init__" sInit f fd) (T : GT mg) (U : CT K mg C mc) (FN : Fun K "is_name" "is_name" sIsName fN fdN) (bN : Binds K fdN ["value"] []) (mN : mg "is_name" = some (.ref fN)) :
    FnR P w K mg base CX0 2 f (spMk C) := by
  have GN : FnOk P w K mg base CX0 1 fN fdN ["value"] (spIsName K) := ok_isName FN T
  obtain ⟨oc, od, kV, doc, pm, an, cdv, ct, osl, rfl, lk, hcd⟩ := F.ex
  refine fn_ofV (nmax := 10) (sp := spInit C) lk hcd scInit (by decide) (fun u rest hl => ?_) (fun _ _ _ _ _ _ _ _ _ _ _ _ z => z) (fun A outer s H vs Q E hr h => ?_)
  · match rest, hl with
    | [], _ => rfl
    | [_], _ => rfl
    | [_, _], _ => rfl
    | [_, _, _], _ => rfl
    | [_, _, _, _], _ => rfl
    | [_, _, _, _, _], _ => rfl
    | [_, _, _, _, _, _], _ => rfl
    | [_, _, _, _, _, _, _], _ => rfl
    | [_, _, _, _, _, _, _, _], _ => rfl
    | [_, _, _, _, _, _, _, _, _], _ => rfl
    | [_, _, _, _, _, _, _, _, _, _], _ => rfl
    | _ :: _ :: _ :: _ :: _ :: _ :: _ :: _ :: _ :: _ :: _ :: r, h => exact absurd h (by simp only [List.length_cons]; omega)
  · obtain ⟨p, dx, t, ns, rfl, hp, ht, hn, k⟩ := h
    obtain ⟨um, cm⟩ := U.most2
    have npt : p ≠ t := ne_of hp ht (by intro z; cases z)
    refine ⟨_, PSs.nox (pss_cons (ps_for PassesOwn.never rfl (pi_tup (pv 1)) (pg_name (i := 2) scInit.nd rfl (Or.inl rfl))
        (pss_one (ps_if (pt_not (pt_val (pe_call GN hr (by rfl) mN FN.kp bN .nil pass0 (pa_cons (pv 2) pa_nil)))) (pss_one ps_never) pss_nil)))
      (pss_cons (ps_if (pt_cmpR op_gt (pe_callB call_len_seq (by rfl) T.b.len PySem.boot_len (pa_cons (pv 1) pa_nil)) (pe_con (pv 0) rfl) (nomark _)) (pss_one ps_never) pss_nil)
      (pss_one (ps_fld (pv 0) (pv 1) rfl)))), ?_⟩
    refine ⟨_, rfl, t, rfl, ⟨_, SqT.of ht⟩, for_it walk_tup (fun i σ H' => Same H H' ∧ ∃ v, σ = [some (.ref p), some (.ref t), v]) ⟨Same.refl H, none, rfl⟩ (fun i σ H' _ e => SqT.of (e.1 _ _ ht)) (fun i x σ H1 H2 hi e y => ?_) (fun σ H1 e => ?_)⟩
    · obtain ⟨s1, v, rfl⟩ := e
      obtain ⟨rfl, hx⟩ := y
      rw [List.getElem?_map] at hx
      obtain ⟨n, hn1, rfl⟩ := Option.map_eq_some_iff.mp hx
      have on := hn.2 n (List.mem_of_getElem? hn1)
      refine ⟨_, rfl, _, rfl, .inl ⟨n, rfl, Nat.le_trans (okN_len on).2 (by decide)⟩, fun H' s2 => ⟨_, rfl, ?_⟩⟩
      rw [show isNm (V.str n) = true from on]
      exact ⟨s1.trans s2, _, rfl⟩
    · obtain ⟨s1, v, rfl⟩ := e
      refine ⟨_, rfl, t, _, rfl, .inr (SqT.of (s1 _ _ ht)), _, rfl, p, C, dx, [], .int 8, um, rfl, s1 _ _ hp, U.cl, cm, rfl, _, _, rfl, rfl, _, rfl, ?_⟩
      refine ite2 (fun h => ?_) (fun _ => ?_)
      · rw [decide_eq_true_eq, List.length_map] at h
        have := hn.1
        exact absurd h (by omega)
      · refine ⟨_, rfl, _, rfl, p, C, dx, [], rfl, s1 _ _ hp, U.cl, U.nN, (by show 0 < 1000; decide), ?_⟩
        exact k _ upd_same fun b o hb hne => by
          rw [upd_ne hne]
          exact s1 _ _ hb
end
end Pl

namespace Pl
open PySem L2 Own TL
/-! ### what the methods are, and their promises -/
def spNames (C : Addr) : Sp := fun vs H Q _ => ∃ p dx t, vs = [.ref p] ∧ H p = some (.ins C dx (pf t)) ∧ Q (.ref t) H
def spLen (C : Addr) : Sp := fun vs H Q _ => ∃ p ns, vs = [.ref p] ∧ PlA C H p ns ∧ Q (.int (ns.length : Nat)) H
def spBool (C : Addr) : Sp := fun vs H Q _ => ∃ p ns, vs = [.ref p] ∧ PlA C H p ns ∧ Q (.bl (!ns.isEmpty)) H
def spEq (C : Addr) : Sp := fun vs H Q _ => ∃ p q ns ms, vs = [.ref p, .ref q] ∧ PlA C H p ns ∧ PlA C H q ms ∧ Nms ns ∧ Nms ms ∧ Q (.bl (decide (ns = ms))) H
def spAhead (C : Addr) : Sp := fun vs H Q _ => ∃ p q ns ms, vs = [.ref p, .ref q] ∧ PlA C H p ns ∧ PlA C H q ms ∧ Q (.bl (lexS ns ms)) H
def spHead (C : Addr) : Sp := fun vs H Q _ => ∃ p ns k, vs = [.ref p, .int k] ∧ PlA C H p ns ∧ Nms ns ∧ 0 ≤ k ∧ k ≤ (ns.length : Nat) ∧ ∀ q H', Same H H' → PlA C H' q (ns.take k.toNat) → Q (.ref q) H'
def spUp (C : Addr) : Sp := fun vs H Q _ => ∃ p ns, vs = [.ref p] ∧ PlA C H p ns ∧ Nms ns ∧ (ns = [] → Q .non H) ∧ (ns ≠ [] → ∀ q H', Same H H' → PlA C H' q ns.dropLast → Q (.ref q) H')
def spAdd (C : Addr) : Sp := fun vs H Q _ => ∃ p ns s, vs = [.ref p, .str s] ∧ PlA C H p ns ∧ Nms (ns ++ [s]) ∧ ∀ q H', Same H H' → PlA C H' q (ns ++ [s]) → Q (.ref q) H'
/-- the call of a def as a positional promise -/
theorem fnR_of {P : Program} {w : World} {K : PySem.W.Frag} {mg : Str → Option Value} {base : Heap} {k : Nat} {f : Addr} {fd : FuncData} {ps : List Str} {sp : Sp} (F : FnOk P w K mg base CX0 k f fd ps sp) (hb : Binds K fd ps []) :
    FnR P w K mg base CX0 k f sp := by
  intro A outer s H us vs Q E hr e0 r h
  have hl := F.len _ _ _ _ h
  have z := hb s us (e0.mod.kin.keeps fun b o e => (e0.bs b o e).1) (by rw [List.append_nil, ← r.length]; exact hl)
  rw [List.append_nil] at z
  exact F.run A outer s H _ us vs Q E hr e0 z r h
theorem cut_to {xs : List V} {k : Int} (h0 : 0 ≤ k) (h1 : k ≤ (xs.length : Nat)) : cutV xs none (some k) = xs.take k.toNat := by
  obtain ⟨n, rfl⟩ : ∃ n : Nat, k = (n : Int) := ⟨k.toNat, by omega⟩
  unfold cutV
  rw [HT.sIx_none, HT.sIx_nat, List.drop_zero, Nat.sub_zero, Nat.min_eq_left (by omega)]
  rfl
section
variable {P : Program} {w : World} {K : PySem.W.Frag} {mg : Str → Option Value} {base : Heap} {f C : Addr} {mc : Value} {fd : FuncData}
theorem scNames : FnScope ["self"] ["self"] (defScope sNames) := ⟨rfl, rfl, rfl, by decide +kernel, rfl, by decide +kernel, by decide +kernel⟩
theorem ok_names (F : Fun K "names" "Place.names" sNames f fd) (U : CT K mg C mc) : FnOk P w K mg base CX0 1 f fd ["self"] (spNames C) := by
  refine F.ok scNames (fun vs H Q E h => ?_) (fun cdv A outer s H vs Q E hr h => ?_)
  · obtain ⟨p, dx, t, rfl, _⟩ := h
    rfl
  · obtain ⟨p, dx, t, rfl, hp, q⟩ := h
    exact ⟨_, pss_one (ps_ret (pe_fld (pv 0) rfl)), _, rfl, p, C, dx, _, _, rfl, hp, U.cl, U.nN, pf_at _, q⟩
theorem scLen : FnScope ["self"] ["self"] (defScope sLen) := ⟨rfl, rfl, rfl, by decide +kernel, rfl, by decide +kernel, by decide +kernel⟩
theorem ok_len (F : Fun K "__len__" "Place.__len__" sLen f fd) (T : BT mg) (U : CT K mg C mc) : FnOk P w K mg base CX0 1 f fd ["self"] (spLen C) := by
  refine F.ok scLen (fun vs H Q E h => ?_) (fun cdv A outer s H vs Q E hr h => ?_)
  · obtain ⟨p, ns, rfl, _⟩ := h
    rfl
  · obtain ⟨p, ns, rfl, ⟨dx, t, hp, ht⟩, q⟩ := h
    refine ⟨_, pss_one (ps_ret (pe_callB call_len_seq (by rfl) T.len PySem.boot_len (pa_cons (pe_fld (pv 0) rfl) pa_nil))), _, rfl, p, C, dx, _, _, rfl, hp, U.cl, U.nN, pf_at _, t, _, rfl, .inr (SqT.of ht), ?_⟩
    rw [List.length_map]
    exact q
theorem scBool : FnScope ["self"] ["self"] (defScope sBool) := ⟨rfl, rfl, rfl, by decide +kernel, rfl, by decide +kernel, by decide +kernel⟩
theorem ok_bool (F : Fun K "__bool__" "Place.__bool__" sBool f fd) (T : BT mg) (U : CT K mg C mc) : FnOk P w K mg base CX0 1 f fd ["self"] (spBool C) := by
  refine F.ok scBool (fun vs H Q E h => ?_) (fun cdv A outer s H vs Q E hr h => ?_)
  · obtain ⟨p, ns, rfl, _⟩ := h
    rfl
  · obtain ⟨p, ns, rfl, ⟨dx, t, hp, ht⟩, q⟩ := h
    refine ⟨_, pss_one (ps_ret (pe_callTy call_boolT (by rfl) T.bool (by decide +kernel) (pa_cons (pe_fld (pv 0) rfl) pa_nil))), _, rfl, p, C, dx, _, _, rfl, hp, U.cl, U.nN, pf_at _, t, _, rfl, SqT.of ht, ?_⟩
    have e : (!(ns.map V.str).isEmpty) = !ns.isEmpty := by cases ns <;> rfl
    rw [e]
    exact q
theorem scEq : FnScope ["self", "other"] ["self", "other"] (defScope sEq) := ⟨rfl, rfl, rfl, by decide +kernel, rfl, by decide +kernel, by decide +kernel⟩
theorem ok_eq (F : Fun K "__eq__" "Place.__eq__" sEq f fd) (T : BT mg) (U : CT K mg C mc) : FnOk P w K mg base CX0 1 f fd ["self", "other"] (spEq C) := by
  refine F.ok scEq (fun vs H Q E h => ?_) (fun cdv A outer s H vs Q E hr h => ?_)
  · obtain ⟨p, q, ns, ms, rfl, _⟩ := h
    rfl
  · obtain ⟨p, q, ns, ms, rfl, P1, P2, N1, N2, k⟩ := h
    have ty := PlA.ty U P2
    obtain ⟨dx, t, hp, ht⟩ := P1
    obtain ⟨dy, u, hq, hu⟩ := P2
    refine ⟨_, pss_one (ps_ret (pe_and (pe_callB call_isi (by rfl) T.isi (by decide +kernel) (pa_cons (pv 1) (pa_cons (pe_glob (v := .ref C) (by rfl) U.mgC rfl) pa_nil)))
      (pe_one (pe_cmpR (op_eqD hr.units) (pe_fld (pv 0) rfl) (pe_fld (pv 1) rfl) (nomark _))))), ?_⟩
    refine ⟨_, rfl, _, _, _, _, true, rfl, .own C, ty, U.kC, true, rfl, ?_⟩
    refine iteT ⟨_, rfl, p, C, dx, _, _, rfl, hp, U.cl, U.nN, pf_at _, _, rfl, q, C, dy, _, _, rfl, hq, U.cl, U.nN, pf_at _, _, _, .tup (SqT.of ht) (dp_strs _), .tup (SqT.of hu) (dp_strs _),
      shaped_strs _ fun n hn => ok_str (N1.2 n hn), shaped_strs _ fun n hn => ok_str (N2.2 n hn), ?_⟩
    rw [eqv_strs]
    exact k
theorem scAhead : FnScope ["self", "b"] ["self", "b"] (defScope sAhead) := ⟨rfl, rfl, rfl, by decide +kernel, rfl, by decide +kernel, by decide +kernel⟩
theorem ok_ahead {fn pn : Addr} {fdn : FuncData} (F : Fun K "is_ahead" "Place.is_ahead" sAhead f fd) (T : BT mg) (U : CT K mg C mc) (Fn : Fun K "names" "Place.names" sNames fn fdn) (bn : Binds K fdn ["self"] []) (hp : PropOf K C "names" pn fn) :
    FnOk P w K mg base CX0 3 f fd ["self", "b"] (spAhead C) := by
  have GN : FnOk P w K mg base CX0 1 fn fdn ["self"] (spNames C) := ok_names Fn U
  refine F.ok scAhead (fun vs H Q E h => ?_) (fun cdv A outer s H vs Q E hr h => ?_)
  · obtain ⟨p, q, ns, ms, rfl, _⟩ := h
    rfl
  · obtain ⟨p, q, ns, ms, rfl, P1, P2, k⟩ := h
    have ty := PlA.ty U P2
    obtain ⟨dx, t, hp1, ht⟩ := P1
    obtain ⟨dy, u, hq, hu⟩ := P2
    refine ⟨_, pss_cons (ps_if (pt_not (pt_val (pe_callB call_isi (by rfl) T.isi (by decide +kernel) (pa_cons (pv 1) (pa_cons (pe_glob (v := .ref C) (by rfl) U.mgC rfl) pa_nil))))) (pss_one ps_never) pss_nil)
      (pss_one (ps_ret (pe_cmpR (op_ltTS hr.units0) (pe_fld (pv 0) rfl) (pe_prop (pv 1) U.cl hp GN hr bn .nil pass0 rfl) (nomark _)))), ?_⟩
    refine ⟨_, rfl, _, _, _, _, true, rfl, .own C, ty, U.kC, true, rfl, ?_⟩
    refine iteF ⟨_, rfl, p, C, dx, _, _, rfl, hp1, U.cl, U.nN, pf_at _, _, rfl, q, dy, _, rfl, hq, q, dy, u, rfl, hq, t, u, ns, ms, rfl, rfl, SqT.of ht, SqT.of hu, k⟩
theorem scHead : FnScope ["self", "k", "names"] ["self", "k"] (defScope sHead) := ⟨rfl, rfl, rfl, by decide +kernel, rfl, by decide +kernel, by decide +kernel⟩
theorem ok_head {fI fP : Addr} {fdI : FuncData} (F : Fun K "head" "Place.head" sHead f fd) (T : BT mg) (U : CT K mg C mc) (FI : Fun K "is_integer" "is_integer" sIsInt fI fdI) (bI : Binds K fdI ["value"] []) (mI : mg "is_integer" = some (.ref fI))
    (M : Mk K C fP) (GM : FnR P w K mg base CX0 2 fP (spMk C)) : FnOk P w K mg base CX0 4 f fd ["self", "k"] (spHead C) := by
  have GI : FnOk P w K mg base CX0 1 fI fdI ["value"] (spIsInt K) := ok_isInt FI T
  refine F.ok scHead (fun vs H Q E h => ?_) (fun cdv A outer s H vs Q E hr h => ?_)
  · obtain ⟨p, ns, k, rfl, _⟩ := h
    rfl
  · obtain ⟨p, ns, k, rfl, ⟨dx, t, hp, ht⟩, hn, k0, k1, q⟩ := h
    refine ⟨_, pss_cons (ps_if (PW.pt (pw_or (pt_not (pt_val (pe_call GI (hr.mono (by decide)) (by rfl) mI FI.kp bI .nil pass0 (pa_cons (pv 1) pa_nil))))
        (pw_or1 (pt_not (pt_chain op_le op_le pe_int (pv 1) (pe_callB call_len_seq (by rfl) T.len PySem.boot_len (pa_cons (pe_fld (pv 0) rfl) pa_nil))))))) (pss_one ps_never) pss_nil)
      (pss_cons (ps_set (i := 2) scHead.nd rfl (Or.inl rfl) (pe_slice sl_tupA (pe_fld (pv 0) rfl) po_none (po_some (pv 1))))
      (pss_one (ps_ret (pe_makeS M GM hr (by rfl) U.mgC pass0 (pv 2))))), ?_⟩
    refine ⟨_, rfl, _, _, true, false, rfl, .base (.int k), kit_ty (by decide +kernel), kit_ty (by decide +kernel), _, rfl, ?_⟩
    refine iteF ⟨_, rfl, _, _, rfl, rfl, _, rfl, ?_⟩
    rw [decide_eq_true k0]
    refine iteT ⟨_, rfl, p, C, dx, _, _, rfl, hp, U.cl, U.nN, pf_at _, t, _, rfl, .inr (SqT.of ht), _, _, rfl, rfl, _, rfl, ?_⟩
    rw [List.length_map, decide_eq_true k1]
    refine iteF ⟨_, rfl, p, C, dx, _, _, rfl, hp, U.cl, U.nN, pf_at _, ?_⟩
    refine ⟨_, rfl, k, rfl, t, _, rfl, SqT.of ht, fun hw => ?_, fun hw p2 hp2 => ?_⟩
    · have ek : ns.take k.toNat = ns := by
        have h2 := hw.2
        obtain ⟨n, rfl⟩ : ∃ n : Nat, k = (n : Int) := ⟨k.toNat, by omega⟩
        rw [HT.sIx_nat, List.length_map] at h2
        exact List.take_of_length_le (by omega)
      refine ⟨_, rfl, t, _, rfl, .inl (SqT.of ht), make_ok hn fun r H' s1 P1 => q r H' s1 ?_⟩
      rw [ek]
      exact P1
    · have ec : cutV (ns.map V.str) none (some k) = (ns.take k.toNat).map V.str := by
        rw [cut_to k0 (by rw [List.length_map]; exact k1), List.map_take]
      refine ⟨_, rfl, p2, (ns.take k.toNat).map V.str, rfl, .inl (SqT.of (by rw [upd_same, ec])), make_ok (hn.take _) fun r H' s1 P1 => q r H' (fun b o hb => s1 b o ?_) P1⟩
      rw [upd_ne (ne_of_none hb hp2)]
      exact hb
theorem scAdd : FnScope ["self", "other"] ["self", "other"] (defScope sAdd) := ⟨rfl, rfl, rfl, by decide +kernel, rfl, by decide +kernel, by decide +kernel⟩
theorem ok_add {fP : Addr} (F : Fun K "__add__" "Place.__add__" sAdd f fd) (U : CT K mg C mc) (M : Mk K C fP) (GM : FnR P w K mg base CX0 2 fP (spMk C)) : FnOk P w K mg base CX0 4 f fd ["self", "other"] (spAdd C) := by
  refine F.ok scAdd (fun vs H Q E h => ?_) (fun cdv A outer s H vs Q E hr h => ?_)
  · obtain ⟨p, ns, x, rfl, _⟩ := h
    rfl
  · obtain ⟨p, ns, x, rfl, ⟨dx, t, hp, ht⟩, hn, q⟩ := h
    refine ⟨_, pss_one (ps_ret (pe_makeS1 M GM hr (by rfl) U.mgC pass0 (StX.pa_star (pe_fld (pv 0) rfl) (pa_cons (pv 1) pa_nil)))), ?_⟩
    refine ⟨_, rfl, p, C, dx, _, _, rfl, hp, U.cl, U.nN, pf_at _, t, _, rfl, .inl (SqT.of ht), _, rfl, ?_⟩
    have e : ns.map V.str ++ [V.str x] = (ns ++ [x]).map V.str := by rw [List.map_append]; rfl
    have z := make_ok (C := C) (H1 := H) (Q := Q) (E := E0) hn fun r H' s1 P1 => q r H' s1 P1
    rw [← e] at z
    exact z
end
end Pl

namespace Pl
open PySem L2 Own TL
/-! ### texts of places -/
def txt (ns : List Str) : Str := ("/" : Str) ++ Txt.join ("/" : Str) ns
theorem tl_slash : tl ("/" : Str) = [47] := by decide +kernel
theorem slash_small : ("/" : Str).cps.all (· < 256) = true := by decide +kernel
theorem no47 {s : Str} (h : okN s = true) : 47 ∉ tl s := by
  unfold okN at h
  simp only [Bool.and_eq_true, decide_eq_true_eq, List.all_eq_true] at h
  intro hm
  have a : 47 ∉ tl SIGNS := by decide +kernel
  exact a (h.2 47 hm)
theorem tl_txt (ns : List Str) : tl (txt ns) = 47 :: joinL [47] (ns.map tl) := by
  unfold txt
  rw [tl_append, join_eq, tl_join, tl_slash]
  rfl
theorem txt_starts (ns : List Str) : Txt.startswith (txt ns) ("/" : Str) = true := by
  unfold Txt.startswith
  have h := tl_txt ns
  have l1 : ("/" : Str).length = 1 := by decide +kernel
  have l2 : 1 ≤ (txt ns).length := by rw [len_tl, h]; simp
  rw [StrLaws.subAt_eq, l1]
  simp only [Bool.and_eq_true, decide_eq_true_eq, beq_iff_eq]
  refine ⟨by omega, ?_⟩
  show ((tl (txt ns)).drop 0).take 1 = tl ("/" : Str)
  rw [h, tl_slash]
  rfl
def cut1 (s : Str) : Str := cutS s (some 1) none
theorem tl_cut1 (s : Str) : tl (cut1 s) = (tl s).drop 1 := by
  unfold cut1 cutS
  show List.take (HT.sIx s.length s.length none - HT.sIx s.length 0 (some ((1 : Nat) : Int))) (List.drop (HT.sIx s.length 0 (some ((1 : Nat) : Int))) (tl s)) = _
  rw [HT.sIx_none, HT.sIx_nat]
  have e : s.length = (tl s).length := len_tl s
  rcases Nat.eq_zero_or_pos s.length with z | z
  · have : tl s = [] := List.length_eq_zero_iff.mp (by omega)
    rw [this]
    simp
  · rw [Nat.min_eq_left (by omega)]
    refine List.take_of_length_le ?_
    rw [List.length_drop]
    omega
theorem cut_txt (ns : List Str) : cut1 (txt ns) = Txt.join ("/" : Str) ns := by
  refine ext_tl ?_
  rw [tl_cut1, tl_txt, join_eq, tl_join, tl_slash]
  rfl
theorem join_cons (ns : List Str) (h : ns ≠ []) : txt ns = Txt.join ("/" : Str) (("" : Str) :: ns) := by
  refine ext_tl ?_
  rw [tl_txt, join_eq, tl_join, tl_slash]
  cases ns with
  | nil => exact absurd rfl h
  | cons n r => rfl
theorem split_names {ns : List Str} (hn : Nms ns) (h : ns ≠ []) : Txt.split (Txt.join ("/" : Str) ns) ("/" : Str) = ns :=
  split_join tl_slash slash_small h fun p hp => no47 (hn.2 p hp)
theorem split_txt {ns : List Str} (hn : Nms ns) (h : ns ≠ []) : Txt.split (txt ns) ("/" : Str) = ("" : Str) :: ns := by
  rw [join_cons ns h]
  refine split_join tl_slash slash_small (by simp) fun p hp => ?_
  rcases List.mem_cons.mp hp with rfl | hp
  · decide +kernel
  · exact no47 (hn.2 p hp)
theorem txt_nil : txt [] = ("/" : Str) := by
  refine ext_tl ?_
  rw [tl_txt, tl_slash]
  rfl
theorem split_root : Txt.split ("/" : Str) ("/" : Str) = [("" : Str), ("" : Str)] := by
  have e : ("/" : Str) = Txt.join ("/" : Str) [("" : Str), ("" : Str)] := by
    refine ext_tl ?_
    rw [join_eq, tl_join, tl_slash]
    rfl
  have z := split_join (y := ("/" : Str)) tl_slash slash_small (parts := [("" : Str), ("" : Str)]) (by simp) (fun p hp => by
    have e2 : p = ("" : Str) := by simpa using hp
    rw [e2]
    decide +kernel)
  rw [← e] at z
  exact z
theorem txt_ne {ns : List Str} (h : ns ≠ []) (hn : Nms ns) : txt ns ≠ ("/" : Str) := by
  intro e
  have h1 := tl_txt ns
  rw [e, tl_slash] at h1
  cases ns with
  | nil => exact h rfl
  | cons n r =>
    have h2 : joinL [47] ((n :: r).map tl) = [] := by
      injection h1 with _ q
      exact q.symm
    have h3 : tl n ≠ [] := fun q => by
      have := (okN_len (hn.2 n List.mem_cons_self)).1
      rw [len_tl, q] at this
      simp at this
    cases r with
    | nil => exact h3 h2
    | cons m r =>
      have h4 : tl n ++ ([47] ++ joinL [47] ((m :: r).map tl)) = [] := h2
      exact h3 (List.append_eq_nil_iff.mp h4).1
def prt (s : Str) : List Str := Txt.split (cut1 s) ("/" : Str)
def isPT (s : Str) : Bool := Txt.startswith s ("/" : Str) && (decide (s = ("/" : Str)) || (decide ((prt s).length ≤ 8) && (prt s).all okN))
theorem isPT_txt {ns : List Str} (hn : Nms ns) : isPT (txt ns) = true := by
  unfold isPT
  rw [txt_starts, Bool.true_and]
  by_cases h : ns = []
  · subst h
    rw [txt_nil, decide_eq_true rfl]
    rfl
  · have e : prt (txt ns) = ns := by
      unfold prt
      rw [cut_txt, split_names hn h]
    rw [e, decide_eq_true hn.1]
    have : ns.all okN = true := List.all_eq_true.mpr fun n hm => hn.2 n hm
    rw [this]
    simp
/-- the names that read keeps -/
theorem kept_txt {ns : List Str} (hn : Nms ns) : (Txt.split (txt ns) ("/" : Str)).filter (fun n => (n.length : Int) != 0) = ns := by
  by_cases h : ns = []
  · subst h
    rw [txt_nil, split_root]
    decide +kernel
  · rw [split_txt hn h]
    rw [List.filter_cons_of_neg (by decide +kernel)]
    refine List.filter_eq_self.mpr fun n hm => ?_
    have := (okN_len (hn.2 n hm)).1
    simp
    omega
theorem sum_len : ∀ ns : List Str, (∀ n ∈ ns, okN n = true) → (ns.map (·.length)).sum ≤ 8 * ns.length
  | [], _ => by simp
  | n :: r, h => by
    have a := sum_len r fun m hm => h m (List.mem_cons_of_mem _ hm)
    have b := (okN_len (h n List.mem_cons_self)).2
    simp only [List.map_cons, List.sum_cons, List.length_cons]
    omega
theorem join_room {ns : List Str} (hn : Nms ns) : (ns.map (·.length)).sum + ns.length * ("/" : Str).length ≤ 16777216 := by
  have a := sum_len ns hn.2
  have l1 : ("/" : Str).length = 1 := by decide +kernel
  have := hn.1
  rw [l1]
  omega
theorem len_joinL : ∀ ps : List (List Nat), (joinL [47] ps).length ≤ (ps.map List.length).sum + ps.length
  | [] => by simp [joinL]
  | [p] => by simp [joinL]
  | p :: q :: r => by
    have := len_joinL (q :: r)
    simp only [joinL, List.length_append, List.map_cons, List.sum_cons, List.length_cons, List.length_nil] at *
    omega
theorem txt_len {ns : List Str} (hn : Nms ns) : (txt ns).length ≤ 100 := by
  rw [len_tl, tl_txt, List.length_cons]
  have a := len_joinL (ns.map tl)
  have b := sum_len ns hn.2
  have e : (List.map List.length (List.map tl ns)) = ns.map (·.length) := by
    rw [List.map_map]
    refine List.map_congr_left fun n _ => ?_
    show (tl n).length = n.length
    rw [len_tl]
  rw [e, List.length_map] at a
  have := hn.1
  omega
theorem join_len {ns : List Str} (hn : Nms ns) : (Txt.join ("/" : Str) ns).length ≤ 100 := by
  have h := txt_len hn
  have e : (txt ns).length = ("/" : Str).length + (Txt.join ("/" : Str) ns).length := by
    unfold txt
    rw [len_tl, len_tl, len_tl, tl_append, List.length_append]
  omega
end Pl

namespace Pl
open PySem L2 Own TL
def isPTv : V → Bool
  | .str s => isPT s
  | _ => false
def spPText (K : PySem.W.Frag) : Sp := fun vs H Q _ => ∃ x, vs = [x] ∧ ((∃ s, x = .str s ∧ s.length ≤ 1000000) ∨ (∃ t, TyX K H x t ∧ PySem.W.kitOne K t (.type "str") = some false ∧ isPTv x = false)) ∧
  ∀ H', Same H H' → Q (.bl (isPTv x)) H'
def spText (C : Addr) : Sp := fun vs H Q _ => ∃ p ns, vs = [.ref p] ∧ PlA C H p ns ∧ Nms ns ∧ Q (.str (txt ns)) H
def spRead (C : Addr) : Sp := fun vs H Q _ => ∃ ns, vs = [.ref C, .str (txt ns)] ∧ Nms ns ∧ ∀ q H', Same H H' → PlA C H' q ns → Q (.ref q) H'
def spOf (C : Addr) : Sp := fun vs H Q _ => ∃ p ns, vs = [.ref p] ∧ PlA C H p ns ∧ Q (.ref p) H
def spIsPlace (C : Addr) : Sp := fun vs H Q _ => ∃ p ns, vs = [.ref p] ∧ PlA C H p ns ∧ Q (.bl true) H
def spCont (C : Addr) : Sp := fun vs H Q _ => ∃ p q ns ms, vs = [.ref p, .ref q] ∧ PlA C H p ns ∧ PlA C H q ms ∧ Nms ns ∧ Nms ms ∧ ∀ H', Same H H' → Q (.bl (decide (ms.take ns.length = ns))) H'
theorem spl_le (S : List Nat) : ∀ (l : List Nat) (k : Nat) (acc p : List Nat), p ∈ spl S k acc l → p.length ≤ acc.length + l.length
  | [], k, acc, p, h => by
    rw [spl_nil] at h
    rw [List.mem_singleton.mp h]
    simp
  | c :: r, 0, acc, p, h => by
    cases e : pre S (c :: r) with
    | true =>
      rw [spl_hit e] at h
      rcases List.mem_cons.mp h with q | q
      · rw [q]
        simp
      · have := spl_le S r _ _ p q
        simp only [List.length_nil, List.length_cons] at *
        omega
    | false =>
      rw [spl_miss e] at h
      have := spl_le S r _ _ p h
      simp only [List.length_append, List.length_cons, List.length_nil] at *
      omega
  | c :: r, k + 1, acc, p, h => by
    rw [spl_pass] at h
    have : p ∈ spl S k acc r := by
      rw [spl_pass]
      exact h
    have := spl_le S r _ _ p this
    simp only [List.length_cons]
    omega
theorem split_le {x : Str} {p : Str} (h : p ∈ Txt.split x ("/" : Str)) : p.length ≤ x.length := by
  have e := split_spl x ("/" : Str) (by rw [tl_slash]; simp) (kind_ok slash_small)
  have h2 : tl p ∈ spl [47] 0 [] (tl x) := by
    rw [← tl_slash, ← e]
    exact List.mem_map_of_mem h
  have := spl_le _ _ _ _ _ h2
  rw [len_tl, len_tl]
  simpa using this
theorem spl_count (S : List Nat) : ∀ (l : List Nat) (k : Nat) (acc : List Nat), (spl S k acc l).length ≤ l.length + 1
  | [], k, acc => by
    rw [spl_nil]
    simp
  | c :: r, 0, acc => by
    cases e : pre S (c :: r) with
    | true =>
      rw [spl_hit e]
      have := spl_count S r (S.length - 1) []
      simp only [List.length_cons]
      omega
    | false =>
      rw [spl_miss e]
      have := spl_count S r 0 (acc ++ [c])
      simp only [List.length_cons]
      omega
  | c :: r, k + 1, acc => by
    have h : spl S (k + 1) acc (c :: r) = spl S k acc r := by rw [spl_pass, spl_pass S k]; rfl
    rw [h]
    have := spl_count S r k acc
    simp only [List.length_cons]
    omega
theorem split_count (x : Str) : (Txt.split x ("/" : Str)).length ≤ x.length + 1 := by
  have e := split_spl x ("/" : Str) (by rw [tl_slash]; simp) (kind_ok slash_small)
  have h := congrArg List.length e
  rw [List.length_map] at h
  rw [h, len_tl]
  exact spl_count _ _ _ _
theorem cut1_le (s : Str) : (cut1 s).length ≤ s.length := cutS_length s _ _
section
variable {P : Program} {w : World} {K : PySem.W.Frag} {mg : Str → Option Value} {base : Heap} {f C : Addr} {mc : Value} {fd : FuncData}
theorem scText : FnScope ["self"] ["self"] (defScope sText) := ⟨rfl, rfl, rfl, by decide +kernel, rfl, by decide +kernel, by decide +kernel⟩
theorem ok_text (F : Fun K "text" "Place.text" sText f fd) (U : CT K mg C mc) : FnOk P w K mg base CX0 1 f fd ["self"] (spText C) := by
  refine F.ok scText (fun vs H Q E h => ?_) (fun cdv A outer s H vs Q E hr h => ?_)
  · obtain ⟨p, ns, rfl, _⟩ := h
    rfl
  · obtain ⟨p, ns, rfl, ⟨dx, t, hp, ht⟩, hn, q⟩ := h
    refine ⟨_, pss_one (ps_ret (pe_op op_add_str pe_str (pe_join pe_str (pe_fld (pv 0) rfl)))), ⟨_, rfl⟩, _, rfl, p, C, dx, _, _, rfl, hp, U.cl, U.nN, pf_at _, _, t, ns, rfl, rfl, .inr (SqT.of ht), join_room hn, _, _, rfl, rfl, ?_, q⟩
    have a := join_len hn
    have l1 : ("/" : Str).length = 1 := by decide +kernel
    rw [l1]
    have : (1000 : Nat) ≤ sizeLine := by decide
    omega
theorem scPText : FnScope ["value", "names", "name"] ["value"] (defScope sPText) := ⟨rfl, rfl, rfl, by decide +kernel, rfl, by decide +kernel, by decide +kernel⟩
theorem ok_ptext {fN : Addr} {fdN : FuncData} (F : Fun K "is_place_text" "is_place_text" sPText f fd) (T : GT mg) (U : CT K mg C mc) (FN : Fun K "is_name" "is_name" sIsName fN fdN) (bN : Binds K fdN ["value"] []) (mN : mg "is_name" = some (.ref fN)) :
    FnOk P w K mg base CX0 2 f fd ["value"] (spPText K) := by
  have GN : FnOk P w K mg base CX0 1 fN fdN ["value"] (spIsName K) := ok_isName FN T
  refine F.ok scPText (fun vs H Q E h => ?_) (fun cdv A outer s H vs Q E hr h => ?_)
  · obtain ⟨x, rfl, _⟩ := h
    rfl
  · obtain ⟨x, rfl, hx, q⟩ := h
    obtain ⟨um, cm⟩ := U.most
    refine ⟨_, pss_cons (ps_if (PW.pt (pw_or (pt_not (pt_val (pe_callB call_isi (by rfl) T.b.isi (by decide +kernel) (pa_cons (pv 0) (pa_cons (pe_bltn (v := .ty "str") (by rfl) T.b.str (by decide +kernel) rfl) pa_nil)))))
        (pw_or1 (pt_not (pt_val (pe_m1 PySem.F.slot_str_startswith PySem.F.type_str_startswith mt_startswith (pv 0) pe_str)))))) (pss_one (ps_ret pe_bl)) pss_nil)
      (pss_cons (ps_if (pt_cmpR op_eq (pv 0) pe_str (nomark _)) (pss_one (ps_ret pe_bl)) pss_nil)
      (pss_cons (ps_set (i := 1) scPText.nd rfl (Or.inl rfl) (pe_split (pe_slice sl_str (pv 0) (po_some pe_int) po_none) pe_str))
      (pss_one (ps_ret (pe_and (pe_cmpR op_le (pe_callB call_len_seq (by rfl) T.b.len PySem.boot_len (pa_cons (pv 1) pa_nil)) (ClX.pe_cval (pe_glob (v := .ref C) (by rfl) U.mgC rfl)) (nomark _))
        (pe_one (pe_callB (cr_all rfl) (by rfl) T.b.all (by decide +kernel) (pa_cons (pe_lc (own := [("name", 2)]) (g := gName 2) (tt := tYes) rfl scPText.nd (pi_list (pv 1))
          (blkOk_by (own := [("name", 2)]) (N := ["value", "names", "name"]) (sc := defScope sPText) (by decide +kernel)) (fun _ _ _ _ _ => pg_name (i := 2) scPText.nd rfl (Or.inl rfl)) (fun _ _ _ _ _ => pts_nil)
          (fun _ _ _ _ _ => pe_call GN hr (by rfl) mN FN.kp bN .nil pass0 (pa_cons (pv 2) pa_nil))) pa_nil)))))))), ?_⟩
    rcases hx with ⟨z, rfl, hz⟩ | ⟨t, ty, kt, nz⟩
    · have hzl : z.length + 10 ≤ sizeLine := Nat.le_trans (Nat.add_le_add_right hz 10) (by decide)
      refine ⟨_, rfl, _, _, _, _, true, rfl, .ty "str", .base (.str z), kit_ty (by decide +kernel), true, rfl, ?_⟩
      refine iteF ⟨_, rfl, ⟨_, rfl⟩, _, _, rfl, rfl, _, rfl, ite2 (fun h0 => ?_) (fun h0 => ?_)⟩
      · have e := q H (Same.refl H)
        have e2 : isPTv (.str z) = false := by
          show isPT z = false
          unfold isPT
          rw [Bool.not_eq_true'] at h0
          rw [h0]
          rfl
        rw [e2] at e
        exact e
      · have h0' : Txt.startswith z ("/" : Str) = true := by simpa using h0
        refine ⟨_, rfl, rfl, _, rfl, ite2 (fun h1 => ?_) (fun h1 => ?_)⟩
        · have e := q H (Same.refl H)
          have h1' : z = ("/" : Str) := by simpa using h1
          have e2 : isPTv (.str z) = true := by
            show isPT z = true
            unfold isPT
            rw [h0', decide_eq_true h1']
            rfl
          rw [e2] at e
          exact e
        · have h1' : ¬ z = ("/" : Str) := by simpa using h1
          refine ⟨_, rfl, 1, rfl, z, rfl, Nat.le_trans (Nat.le_add_right _ _) hzl, ⟨_, rfl⟩, _, _, rfl, rfl, by decide +kernel, ?_, fun l hl => ?_⟩
          · have := cut1_le z
            show (cut1 z).length + 2 ≤ sizeLine
            omega
          · have hL : (upd H l (.lst ((prt z).map V.str))) l = some (.lst ((prt z).map V.str)) := upd_same
            have s0 : Same H (upd H l (.lst ((prt z).map V.str))) := fun b o hb => by
              rw [upd_ne (ne_of_none hb hl)]
              exact hb
            refine ⟨_, rfl, l, _, rfl, .inl (SqL.of hL), C, mc, .int 8, um, rfl, U.rd, cm, _, _, rfl, rfl, _, rfl, ite2 (fun h2 => ?_) (fun h2 => ?_)⟩
            · have h2' : (prt z).length ≤ 8 := by
                have : (((prt z).map V.str).length : Int) ≤ 8 := by simpa using h2
                rw [List.length_map] at this
                omega
              refine ⟨_, rfl, l, rfl, ⟨_, SqL.of hL⟩, fun D hD => lc_it (walk_list (K := K) (a := l) (xs := (prt z).map V.str)) (fun i H' => Same (upd H l (.lst ((prt z).map V.str))) H' ∧ H' D = some (.lst (((prt z).take i).map fun n => V.bl (okN n)))) ⟨fun b o hb => by
                rw [upd_ne (ne_of_none hb hD)]
                exact hb, upd_same⟩ (fun i H' _ p => SqL.of (p.1 _ _ hL)) (fun i x H1 H2 hi p y => ?_) (fun H1 p => ?_)⟩
              · obtain ⟨rfl, hx⟩ := y
                rw [List.getElem?_map] at hx
                obtain ⟨n, hn1, rfl⟩ := Option.map_eq_some_iff.mp hx
                refine ⟨rfl, _, rfl, _, rfl, .inl ⟨n, rfl, ?_⟩, fun H' s2 => ⟨_, s2 _ _ p.2, ?_, fun b o hb => ?_, ?_⟩⟩
                · have a1 := split_le (List.mem_of_getElem? hn1)
                  have a2 := cut1_le z
                  omega
                · rw [List.length_map]
                  have : ((prt z).take i).length ≤ (prt z).length := by rw [List.length_take]; omega
                  have : (8 : Nat) < sizeLine := by decide
                  omega
                · rw [upd_ne (ne_of_none hb hD)]
                  exact s2 _ _ (p.1 _ _ hb)
                · rw [upd_same, List.take_add_one, hn1, List.map_append]
                  rfl
              · refine ⟨D, (prt z).map okN, rfl, SqL.of ?_, ?_⟩
                · rw [p.2, List.length_map, List.take_length, List.map_map]
                  rfl
                · have e := q H1 (s0.trans p.1)
                  have e2 : isPTv (.str z) = ((prt z).map okN).all id := by
                    show isPT z = _
                    unfold isPT
                    rw [h0', decide_eq_false h1', decide_eq_true h2', List.all_map]
                    rfl
                  rw [e2] at e
                  exact e
            · have e := q _ s0
              have h2' : ¬ (prt z).length ≤ 8 := fun q => h2 (decide_eq_true (by rw [List.length_map]; omega))
              have e2 : isPTv (.str z) = false := by
                show isPT z = false
                unfold isPT
                rw [decide_eq_false h1', decide_eq_false h2']
                simp
              rw [e2] at e
              exact e
    · refine ⟨_, rfl, x, _, t, _, false, rfl, .ty "str", ty, kt, false, rfl, ?_⟩
      refine iteT (iteT ?_)
      have e := q H (Same.refl H)
      rw [nz] at e
      exact e
theorem scIsPlace : FnScope ["value"] ["value"] (defScope sIsPlace) := ⟨rfl, rfl, rfl, by decide +kernel, rfl, by decide +kernel, by decide +kernel⟩
theorem ok_isPlace {fT : Addr} {fdT : FuncData} (F : Fun K "is_place" "is_place" sIsPlace f fd) (T : GT mg) (U : CT K mg C mc) (GT_ : FnOk P w K mg base CX0 2 fT fdT ["value"] (spPText K)) (kT : PySem.W.keepIn K (.ref fT) = true) (bT : Binds K fdT ["value"] []) (mT : mg "is_place_text" = some (.ref fT)) :
    FnOk P w K mg base CX0 3 f fd ["value"] (spIsPlace C) := by
  refine F.ok scIsPlace (fun vs H Q E h => ?_) (fun cdv A outer s H vs Q E hr h => ?_)
  · obtain ⟨p, ns, rfl, _⟩ := h
    rfl
  · obtain ⟨p, ns, rfl, Pp, q⟩ := h
    refine ⟨_, pss_one (ps_ret (pe_or (pe_callB call_isi (by rfl) T.b.isi (by decide +kernel) (pa_cons (pv 0) (pa_cons (pe_glob (v := .ref C) (by rfl) U.mgC rfl) pa_nil)))
      (pe_one (pe_call GT_ hr (by rfl) mT kT bT .nil pass0 (pa_cons (pv 0) pa_nil))))), ?_⟩
    refine ⟨_, rfl, _, _, _, _, true, rfl, .own C, PlA.ty U Pp, U.kC, true, rfl, ?_⟩
    exact iteT q
theorem scOf : FnScope ["value"] ["value"] (defScope sOf) := ⟨rfl, rfl, rfl, by decide +kernel, rfl, by decide +kernel, by decide +kernel⟩
theorem ok_of (F : Fun K "of" "Place.of" sOf f fd) (T : GT mg) (U : CT K mg C mc) : FnOk P w K mg base CX0 1 f fd ["value"] (spOf C) := by
  refine F.ok scOf (fun vs H Q E h => ?_) (fun cdv A outer s H vs Q E hr h => ?_)
  · obtain ⟨p, ns, rfl, _⟩ := h
    rfl
  · obtain ⟨p, ns, rfl, Pp, q⟩ := h
    refine ⟨_, pss_cons (ps_if (pt_val (pe_callB call_isi (by rfl) T.b.isi (by decide +kernel) (pa_cons (pv 0) (pa_cons (pe_glob (v := .ref C) (by rfl) U.mgC rfl) pa_nil)))) (pss_one (ps_ret (pv 0))) pss_nil) (pss_one ps_never), ?_⟩
    refine ⟨_, rfl, _, _, _, _, true, rfl, .own C, PlA.ty U Pp, U.kC, true, rfl, ?_⟩
    exact iteT ⟨_, rfl, q⟩
theorem scRead : FnScope ["cls", "text", "names", "name"] ["cls", "text"] (defScope sRead) := ⟨rfl, rfl, rfl, by decide +kernel, rfl, by decide +kernel, by decide +kernel⟩
theorem ok_read {fT fP : Addr} {fdT : FuncData} (F : Fun K "read" "Place.read" sRead f fd) (T : GT mg) (U : CT K mg C mc) (GT_ : FnOk P w K mg base CX0 2 fT fdT ["value"] (spPText K)) (kT : PySem.W.keepIn K (.ref fT) = true) (bT : Binds K fdT ["value"] []) (mT : mg "is_place_text" = some (.ref fT))
    (M : Mk K C fP) (GM : FnR P w K mg base CX0 2 fP (spMk C)) : FnOk P w K mg base CX0 4 f fd ["cls", "text"] (spRead C) := by
  refine F.ok scRead (fun vs H Q E h => ?_) (fun cdv A outer s H vs Q E hr h => ?_)
  · obtain ⟨ns, rfl, _⟩ := h
    rfl
  · obtain ⟨ns, rfl, hn, q⟩ := h
    have tl1 := txt_len hn
    have big : (2000 : Nat) ≤ sizeLine := by decide
    refine ⟨_, pss_cons (ps_if (pt_not (pt_val (pe_call GT_ (hr.mono (by decide)) (by rfl) mT kT bT .nil pass0 (pa_cons (pv 1) pa_nil)))) (pss_one ps_never) pss_nil)
      (pss_cons (ps_setLc (i := 2) (own := [("name", 3)]) (g := gName 3) (tt := tTru K (tVar 3)) rfl scRead.nd rfl rfl (sw_true rfl rfl rfl (by decide +kernel)) (pi_list (pe_split (pv 1) pe_str))
        (blkOk_by (own := [("name", 3)]) (N := ["cls", "text", "names", "name"]) (sc := defScope sRead) (by decide +kernel)) (fun _ _ _ _ _ => pg_name (i := 3) scRead.nd rfl (Or.inl rfl)) (fun _ _ _ _ _ => pts_one (pt_truth (pv 3) (by intro _; rfl)))
        (fun _ _ _ _ _ => pv 3))
      (pss_one (ps_ret (pe_makeLS M GM hr (pv 0) pass0 (pv 2))))), ?_⟩
    refine ⟨_, rfl, _, rfl, .inl ⟨_, rfl, by omega⟩, fun H1 s1 => ⟨_, rfl, ?_⟩⟩
    rw [show isPTv (.str (txt ns)) = true from isPT_txt hn]
    refine iteF ?_
    refine ⟨_, rfl, ⟨_, rfl⟩, _, _, rfl, rfl, by decide +kernel, by omega, fun l hl => ?_⟩
    have hL : (upd H1 l (.lst ((Txt.split (txt ns) ("/" : Str)).map V.str))) l = some (.lst ((Txt.split (txt ns) ("/" : Str)).map V.str)) := upd_same
    have s2 : Same H1 (upd H1 l (.lst ((Txt.split (txt ns) ("/" : Str)).map V.str))) := fun b o hb => by
      rw [upd_ne (ne_of_none hb hl)]
      exact hb
    refine ⟨l, rfl, ⟨_, SqL.of hL⟩, fun D hD => lc_it (walk_list (K := K) (a := l) (xs := (Txt.split (txt ns) ("/" : Str)).map V.str))
      (fun i H' => Same (upd H1 l (.lst ((Txt.split (txt ns) ("/" : Str)).map V.str))) H' ∧ H' D = some (.lst ((((Txt.split (txt ns) ("/" : Str)).take i).filter fun n => (n.length : Int) != 0).map V.str))) ⟨fun b o hb => by
        rw [upd_ne (ne_of_none hb hD)]
        exact hb, upd_same⟩ (fun i H' _ p => SqL.of (p.1 _ _ hL)) (fun i x H3 H4 hi p y => ?_) (fun H3 p => ?_)⟩
    · obtain ⟨rfl, hx⟩ := y
      rw [List.getElem?_map] at hx
      obtain ⟨n, hn1, rfl⟩ := Option.map_eq_some_iff.mp hx
      have a1 := split_le (List.mem_of_getElem? hn1)
      have a2 := split_count (txt ns)
      refine ⟨rfl, _, rfl, ((n.length : Int) != 0), ⟨by omega, rfl⟩, ?_⟩
      cases hb : ((n.length : Int) != 0) with
      | true =>
        refine iteT ⟨_, rfl, _, p.2, ?_, fun b o hb => ?_, ?_⟩
        · rw [List.length_map]
          have b1 := List.length_filter_le (fun n : Str => (n.length : Int) != 0) ((Txt.split (txt ns) ("/" : Str)).take i)
          have b2 : ((Txt.split (txt ns) ("/" : Str)).take i).length ≤ (Txt.split (txt ns) ("/" : Str)).length := by rw [List.length_take]; omega
          omega
        · rw [upd_ne (ne_of_none hb hD)]
          exact p.1 _ _ hb
        · rw [upd_same, List.take_add_one, hn1, List.filter_append, List.map_append]
          simp [hb]
      | false =>
        refine iteF ⟨p.1, ?_⟩
        rw [p.2, List.take_add_one, hn1, List.filter_append]
        simp [hb]
    · have e : H3 D = some (.lst (ns.map V.str)) := by
        rw [p.2, List.length_map, List.take_length, kept_txt hn]
      refine ⟨rfl, _, rfl, D, _, rfl, .inr (SqL.of e), make_ok hn fun r H' s4 P1 => q r H' (s1.trans (s2.trans (p.1.trans s4))) P1⟩
end
end Pl

namespace Pl
open PySem L2 Own TL RZ
def shr : List Str → List Str → Nat
  | x :: xs, y :: ys => if x = y then shr xs ys + 1 else 0
  | _, _ => 0
theorem shr_at : ∀ (ns ms : List Str) (i : Nat), i ≤ ns.length → i ≤ ms.length → ns.take i = ms.take i → (i = ns.length ∨ i = ms.length ∨ ns[i]? ≠ ms[i]?) → shr ns ms = i
  | [], ms, i, h1, _, _, _ => by
    have : i = 0 := by simpa using h1
    rw [this]
    cases ms <;> rfl
  | n :: ns, [], i, _, h2, _, _ => by
    have : i = 0 := by simpa using h2
    rw [this]
    rfl
  | n :: ns, m :: ms, 0, _, _, _, h => by
    have e : ¬ n = m := by
      rcases h with h | h | h
      · simp at h
      · simp at h
      · simpa using h
    show (if n = m then _ else 0) = 0
    rw [if_neg e]
  | n :: ns, m :: ms, i + 1, h1, h2, h3, h => by
    simp only [List.take_succ_cons, List.cons.injEq] at h3
    show (if n = m then shr ns ms + 1 else 0) = i + 1
    rw [if_pos h3.1, shr_at ns ms i (by simpa using h1) (by simpa using h2) h3.2 (by simpa using h)]
theorem walk_zipT {K : PySem.W.Frag} {a b : Addr} {xs ys : List V} {n : Nat} (hn : n = min xs.length ys.length) : Walk (ItzT K a b) n (fun H => SqT K H a xs ∧ SqT K H b ys) (YPair (fun i => xs[i]?) (fun i => ys[i]?)) := by
  subst hn
  refine ⟨fun i _ hi q => ?_, fun _ q => ⟨xs, ys, q.1, q.2, by omega⟩, fun i H v H' _ q y => ?_⟩
  · have h1 : i < xs.length := by omega
    have h2 : i < ys.length := by omega
    exact ⟨xs, ys, xs[i], ys[i], q.1, q.2, by simp [h1], by simp [h2]⟩
  · obtain ⟨T, x, z, h1, h2, h3, h4, h5⟩ := y
    exact ⟨T, x, z, h1, h2, h3, h4 xs q.1, h5 ys q.2⟩
def spAnd (C : Addr) : Sp := fun vs H Q _ => ∃ p q ns ms, vs = [.ref p, .ref q] ∧ PlA C H p ns ∧ PlA C H q ms ∧ Nms ns ∧ Nms ms ∧ ∀ r H', Same H H' → PlA C H' r (ns.take (shr ns ms)) → Q (.ref r) H'
section
variable {P : Program} {w : World} {K : PySem.W.Frag} {mg : Str → Option Value} {base : Heap} {f C : Addr} {mc : Value} {fd : FuncData}
theorem scAnd : FnScope ["self", "other", "shared", "mine", "theirs"] ["self", "other"] (defScope sAnd) := ⟨rfl, rfl, rfl, by decide +kernel, rfl, by decide +kernel, by decide +kernel⟩
theorem ok_and {fH fn pn : Addr} {fdH fdn : FuncData} (F : Fun K "__and__" "Place.__and__" sAnd f fd) (T : BT mg) (U : CT K mg C mc) (GH : FnOk P w K mg base CX0 4 fH fdH ["self", "k"] (spHead C)) (bH : Binds K fdH ["self", "k"] []) (mH : Meth K C "head" fH)
    (Fn : Fun K "names" "Place.names" sNames fn fdn) (bn : Binds K fdn ["self"] []) (hpn : PropOf K C "names" pn fn) : FnOk P w K mg base CX0 5 f fd ["self", "other"] (spAnd C) := by
  have GN : FnOk P w K mg base CX0 1 fn fdn ["self"] (spNames C) := ok_names Fn U
  refine F.ok scAnd (fun vs H Q E h => ?_) (fun cdv A outer s H vs Q E hr h => ?_)
  · obtain ⟨p, q, ns, ms, rfl, _⟩ := h
    rfl
  · obtain ⟨p, q, ns, ms, rfl, P1, P2, N1, N2, k⟩ := h
    obtain ⟨dx, t, hp, ht⟩ := id P1
    obtain ⟨dy, u, hq, hu⟩ := id P2
    refine ⟨_, pss_cons (ps_if (pt_not (pt_val (pe_callB call_isi (by rfl) T.isi (by decide +kernel) (pa_cons (pv 1) (pa_cons (pe_glob (v := .ref C) (by rfl) U.mgC rfl) pa_nil))))) (pss_one ps_never) pss_nil)
      (pss_cons (ps_set (i := 2) scAnd.nd rfl (Or.inl rfl) pe_int)
      (pss_cons (ps_for PassesOwn.never rfl (pi_zipA (by rfl) T.zip (pa_cons (pe_fld (pv 0) rfl) (pa_cons (pe_prop (pv 1) U.cl hpn GN (hr.mono (by decide)) bn .nil pass0 rfl) pa_nil)))
          (pg_tup rfl (pgs_cons (pg_name (i := 3) scAnd.nd rfl (Or.inl rfl)) (pgs_cons (pg_name (i := 4) scAnd.nd rfl (Or.inl rfl)) pgs_nil)))
        (pss_cons (ps_if (pt_cmpR op_ne (pv 3) (pv 4) (nomark _)) (pss_one ps_break) pss_nil)
        (pss_one (ps_aug (i := 2) scAnd.nd rfl (Or.inl rfl) pe_int ip_add))))
      (pss_one (ps_ret (pe_meth (pv 0) U.cl mH GH hr bH .nil pass0 (pa_cons (pv 2) pa_nil)))))), ?_⟩
    refine ⟨_, rfl, _, _, _, _, true, rfl, .own C, PlA.ty U P2, U.kC, true, rfl, ?_⟩
    refine iteF ?_
    have SAME : ∀ {H' : Hp}, Same H H' → SqT K H' t (ns.map V.str) ∧ SqT K H' u (ms.map V.str) := fun s1 => ⟨SqT.of (s1 _ _ ht), SqT.of (s1 _ _ hu)⟩
    have fin : ∀ (i : Nat) (H' : Hp) (v3 v4 : Option V), Same H H' → i ≤ ns.length → i ≤ ms.length → ns.take i = ms.take i → (i = ns.length ∨ i = ms.length ∨ ns[i]? ≠ ms[i]?) →
        tRet (tMeth C "head" (spHead C) [] E0 (tVar 0) (tCons (tVar 2) tNil)) { nx := fun x H' => Q V.non H', rt := Q } [some (.ref p), some (.ref q), some (.int i), v3, v4] H' := by
      intro i H' v3 v4 s1 h1 h2 h3 h4
      refine ⟨_, rfl, p, dx, _, rfl, s1 _ _ hp, pf_no _ (by decide +kernel), _, rfl, p, ns, i, rfl, P1.mono s1, N1, by omega, by omega, fun r H2 s2 P3 => k r H2 (s1.trans s2) ?_⟩
      rw [shr_at ns ms i h1 h2 h3 h4]
      simpa using P3
    refine ⟨_, rfl, p, C, dx, _, _, rfl, hp, U.cl, U.nN, pf_at _, _, rfl, q, dy, _, rfl, hq, q, dy, u, rfl, hq, t, u, _, _, rfl, .inr ⟨SqT.of ht, SqT.of hu,
      for_it (walk_zipT (n := min ns.length ms.length) (xs := ns.map V.str) (ys := ms.map V.str) (by simp)) (fun i σ H' => Same H H' ∧ ns.take i = ms.take i ∧ ∃ v3 v4, σ = [some (.ref p), some (.ref q), some (.int i), v3, v4]) ⟨Same.refl H, rfl, none, none, rfl⟩
        (fun i σ H' _ e => SAME e.1) (fun i x σ H1 H2 hi e y => ?_) (fun σ H1 e => ?_)⟩⟩
    · obtain ⟨s1, e1, v3, v4, rfl⟩ := e
      obtain ⟨tt, x, y, rfl, hn, rfl, hx, hy⟩ := y
      simp only [List.getElem?_map] at hx hy
      obtain ⟨n, hn1, rfl⟩ := Option.map_eq_some_iff.mp hx
      obtain ⟨m, hm1, rfl⟩ := Option.map_eq_some_iff.mp hy
      have s2 : Same H (upd H1 tt (.tup [.str n, .str m])) := fun b o hb => by
        rw [upd_ne (ne_of_none (s1 _ _ hb) hn)]
        exact s1 _ _ hb
      refine ⟨tt, _, rfl, SqT.of upd_same, rfl, _, _, rfl, _, _, rfl, rfl, ?_⟩
      refine ⟨_, rfl, _, rfl, rfl, _, rfl, ite2 (fun h => ?_) (fun h => ?_)⟩
      · have h' : n ≠ m := by simpa using h
        exact fin i _ _ _ s2 (by omega) (by omega) e1 (.inr (.inr (by rw [hn1, hm1]; simpa using h')))
      · have h' : n = m := by simpa using h
        refine ⟨_, rfl, _, _, rfl, rfl, ?_⟩
        refine ⟨s2, ?_, _, _, rfl⟩
        rw [List.take_add_one, List.take_add_one, e1, hn1, hm1, h']
    · obtain ⟨s1, e1, v3, v4, rfl⟩ := e
      exact fin _ _ _ _ s1 (by omega) (by omega) e1 (by omega)
theorem scCont : FnScope ["self", "x"] ["self", "x"] (defScope sCont) := ⟨rfl, rfl, rfl, by decide +kernel, rfl, by decide +kernel, by decide +kernel⟩
theorem ok_cont {fI fO pO fn pn : Addr} {fdI fdO fdn : FuncData} (F : Fun K "__contains__" "Place.__contains__" sCont f fd) (T : GT mg) (U : CT K mg C mc)
    (GI : FnOk P w K mg base CX0 3 fI fdI ["value"] (spIsPlace C)) (kI : PySem.W.keepIn K (.ref fI) = true) (bI : Binds K fdI ["value"] []) (mI : mg "is_place" = some (.ref fI))
    (FO : Fun K "of" "Place.of" sOf fO fdO) (bO : Binds K fdO ["value"] []) (mO : SMet K C mc "of" pO fO)
    (Fn : Fun K "names" "Place.names" sNames fn fdn) (bn : Binds K fdn ["self"] []) (hpn : PropOf K C "names" pn fn) : FnOk P w K mg base CX0 4 f fd ["self", "x"] (spCont C) := by
  have GN : FnOk P w K mg base CX0 1 fn fdn ["self"] (spNames C) := ok_names Fn U
  have GO : FnR P w K mg base CX0 1 fO (spOf C) := fnR_of (ok_of FO T U) bO
  refine F.ok scCont (fun vs H Q E h => ?_) (fun cdv A outer s H vs Q E hr h => ?_)
  · obtain ⟨p, q, ns, ms, rfl, _⟩ := h
    rfl
  · obtain ⟨p, q, ns, ms, rfl, P1, P2, N1, N2, k⟩ := h
    obtain ⟨dx, t, hp, ht⟩ := id P1
    obtain ⟨dy, u, hq, hu⟩ := id P2
    refine ⟨_, pss_cons (ps_if (pt_not (pt_val (pe_call GI hr (by rfl) mI kI bI .nil pass0 (pa_cons (pv 1) pa_nil)))) (pss_one (ps_ret pe_bl)) pss_nil)
      (pss_one (ps_ret (pe_cmpR (op_eqD hr.units) (pe_slice sl_tupA (pe_prop (pe_smeth (pe_glob (v := .ref C) (by rfl) U.mgC rfl) U.rd mO GO (hr.mono (by decide)) pass0 (pa_cons (pv 1) pa_nil)) U.cl hpn GN (hr.mono (by decide)) bn .nil pass0 rfl) po_none
          (po_some (pe_callB call_len_seq (by rfl) T.b.len PySem.boot_len (pa_cons (pe_fld (pv 0) rfl) pa_nil)))) (pe_fld (pv 0) rfl) (nomark _)))), ?_⟩
    refine ⟨_, rfl, q, ms, rfl, P2, _, rfl, ?_⟩
    refine iteF ⟨rfl, _, rfl, q, ms, rfl, P2, q, dy, _, rfl, hq, q, dy, u, rfl, hq, ?_⟩
    refine ⟨_, rfl, p, C, dx, _, _, rfl, hp, U.cl, U.nN, pf_at _, t, _, rfl, .inr (SqT.of ht), _, rfl, u, _, rfl, SqT.of hu, fun hw => ?_, fun hw r hr2 => ?_⟩
    · have e : ms.take ns.length = ms := by
        have h2 := hw.2
        rw [List.length_map, List.length_map, HT.sIx_nat] at h2
        exact List.take_of_length_le (by omega)
      refine ⟨_, rfl, p, C, dx, _, _, rfl, hp, U.cl, U.nN, pf_at _, _, _, .tup (SqT.of hu) (dp_strs _), .tup (SqT.of ht) (dp_strs _), shaped_strs _ fun n hn => ok_str (N2.2 n hn), shaped_strs _ fun n hn => ok_str (N1.2 n hn), ?_⟩
      rw [eqv_strs]
      have z := k H (Same.refl H)
      rw [e] at z
      exact z
    · have e : cutV (ms.map V.str) none (some (((ns.map V.str).length : Nat) : Int)) = (ms.take ns.length).map V.str := by
        by_cases h : ns.length ≤ ms.length
        · rw [cut_to (by omega) (by simp; omega), List.map_take]
          simp
        · refine absurd ⟨rfl, ?_⟩ hw
          rw [HT.sIx_nat, List.length_map, List.length_map]
          omega
      have s1 : Same H (upd H r (.tup (cutV (ms.map V.str) none (some (((ns.map V.str).length : Nat) : Int))))) := fun b o hb => by
        rw [upd_ne (ne_of_none hb hr2)]
        exact hb
      have hR : (upd H r (.tup (cutV (ms.map V.str) none (some (((ns.map V.str).length : Nat) : Int))))) r = some (.tup ((ms.take ns.length).map V.str)) := by rw [upd_same, e]
      refine ⟨_, rfl, p, C, dx, _, _, rfl, s1 _ _ hp, U.cl, U.nN, pf_at _, _, _, .tup (SqT.of hR) (dp_strs _), .tup (SqT.of (s1 _ _ ht)) (dp_strs _), shaped_strs _ fun n hn => ok_str (N2.2 n (List.mem_of_mem_take hn)), shaped_strs _ fun n hn => ok_str (N1.2 n hn), ?_⟩
      rw [eqv_strs]
      exact k _ s1
end
end Pl

namespace Pl
open PySem L2 Own TL RZ
abbrev sPen : Stmt := top 14
abbrev sDraw : Stmt := top 15
abbrev sPick : Stmt := top 16
/-- all but the object at l is as it was -/
def But (l : Addr) (H H' : Hp) : Prop := ∀ b o, H b = some o → b ≠ l → H' b = some o
theorem But.refl (l : Addr) (H : Hp) : But l H H := fun _ _ h _ => h
theorem But.trans {l : Addr} {H H1 H2 : Hp} (a : But l H H1) (b : But l H1 H2) : But l H H2 := fun c o h n => b c o (a c o h n) n
theorem But.same {l : Addr} {H H1 : Hp} (a : Same H H1) : But l H H1 := fun c o h _ => a c o h
/-- what is left of the pen: the cells at c, the index, what is left of a great one -/
structure PenAt (H : Hp) (l c : Addr) (k : Nat) : Prop where
  ex : ∃ (cells : List Int) (idx g : Int), H l = some (.lst [.ref c, .int idx, .int g]) ∧ H c = some (.lst (cells.map V.int)) ∧ cells.length ≤ 63 ∧ 0 ≤ idx ∧ idx ≤ (k : Nat)
theorem PenAt.mono {H H' : Hp} {l c : Addr} {k k' : Nat} (p : PenAt H l c k) (s : Same H H') (h : k ≤ k') : PenAt H' l c k' := by
  obtain ⟨cells, idx, g, h1, h2, h3, h4, h5⟩ := p.ex
  exact ⟨cells, idx, g, s _ _ h1, s _ _ h2, h3, h4, by omega⟩
def spPen (K : PySem.W.Frag) : Sp := fun vs H Q _ => ∃ (a : Addr) (ns : List Int), vs = [.ref a] ∧ SqL K H a (ns.map V.int) ∧ ns.length ≤ 63 ∧ ∀ l c H', Same H H' → H l = none → PenAt H' l c 0 → Q (.ref l) H'
def spDraw : Sp := fun vs H Q _ => ∃ (l c : Addr) (many : Int) (k : Nat), vs = [.ref l, .int many] ∧ PenAt H l c k ∧ k ≤ 100000 ∧ 0 < many ∧ many < 1000000 ∧ ∀ (r : Int) H', 0 ≤ r → r < many → But l H H' → PenAt H' l c (k + 1) → Q (.int r) H'
def spPick : Sp := fun vs H Q _ => ∃ (l c m : Addr) (xs : List V) (k : Nat), vs = [.ref l, .ref m] ∧ PenAt H l c k ∧ k ≤ 100000 ∧ H m = some (.lst xs) ∧ m ≠ l ∧ 0 < xs.length ∧ xs.length < 1000000 ∧ ∀ (j : Nat) x H', xs[j]? = some x → But l H H' → PenAt H' l c (k + 1) → Q x H'
theorem dp_ints {K : PySem.W.Frag} {H : Hp} : ∀ ns : List Int, DpAll K H (ns.map V.int) (ns.map PyData.int)
  | [] => .nil
  | n :: ns => .cons (.int n) (dp_ints ns)
theorem eqv_nil (ns : List Int) : PyData.eqv (.list (ns.map PyData.int)) (.list []) = ns.isEmpty := by
  show PyData.eqvAll _ _ = _
  cases ns <;> simp [PyData.eqvAll]
theorem shaped_nil : SeqAt.shaped (.list []) = true := by decide +kernel
theorem stir_bound {s i c d e : Int} (s0 : 0 ≤ s) (s1 : s < 2147483629) (i0 : 0 ≤ i) (i1 : i ≤ 100000) (c0 : 0 ≤ c) (c1 : c ≤ 1000000) (d0 : 0 ≤ d) (d1 : d ≤ 1000000) (e0 : 0 ≤ e) (e1 : e ≤ 1000000) :
    (s * (2 * i + c) + d * i * i + e).natAbs < 2 ^ 64 := by
  have a0 : 0 ≤ s * (2 * i + c) := Int.mul_nonneg s0 (by omega)
  have a1 : s * (2 * i + c) ≤ 2147483629 * 1200000 := Int.mul_le_mul (by omega) (by omega) (by omega) (by omega)
  have b0 : 0 ≤ d * i := Int.mul_nonneg d0 i0
  have b1 : d * i ≤ 1000000 * 100000 := Int.mul_le_mul d1 i1 i0 (by omega)
  have b2 : 0 ≤ d * i * i := Int.mul_nonneg b0 i0
  have b3 : d * i * i ≤ (1000000 * 100000) * 100000 := Int.mul_le_mul b1 i1 i0 (by omega)
  omega
section
variable {P : Program} {w : World} {K : PySem.W.Frag} {mg : Str → Option Value} {base : Heap} {f : Addr} {fd : FuncData}
theorem scPen : FnScope ["_law_script"] ["_law_script"] (defScope sPen) := ⟨rfl, rfl, rfl, by decide +kernel, rfl, by decide +kernel, by decide +kernel⟩
theorem ok_pen (F : Fun K "_law_pen" "_law_pen" sPen f fd) (T : BT mg) : FnOk P w K mg base CX0 1 f fd ["_law_script"] (spPen K) := by
  refine F.ok scPen (fun vs H Q E h => ?_) (fun cdv A outer s H vs Q E hr h => ?_)
  · obtain ⟨a, ns, rfl, _⟩ := h
    rfl
  · obtain ⟨a, ns, rfl, hs, hl, k⟩ := h
    refine ⟨_, pss_one (ps_ret (pe_lst (pa_cons (pe_callTy call_list_of (by rfl) T.list (by decide +kernel) (pa_cons (pe_slice sl_list (pv 0) po_none (po_some pe_int)) pa_nil)) (pa_cons pe_int (pa_cons pe_int pa_nil))))), ?_⟩
    refine ⟨_, rfl, 63, rfl, a, _, rfl, hs, fun p hp => ⟨p, _, rfl, .inl (SqL.of upd_same), fun c hc => ⟨by show 3 ≤ sizeLine; decide, fun l hl2 => ?_⟩⟩⟩
    have n1 : p ≠ c := fun e => by
      rw [← e, upd_same] at hc
      cases hc
    have n2 : c ≠ l := fun e => by
      rw [← e, upd_same] at hl2
      cases hl2
    have hl3 : H l = none := by
      rw [upd_ne n2.symm] at hl2
      by_cases e : l = p
      · rw [e]
        exact hp
      · rw [upd_ne e] at hl2
        exact hl2
    have ec : cutV (ns.map V.int) none (some 63) = ns.map V.int := by
      unfold cutV
      rw [HT.sIx_none, show (63 : Int) = ((63 : Nat) : Int) from rfl, HT.sIx_nat, List.drop_zero, Nat.sub_zero, List.length_map]
      exact List.take_of_length_le (by rw [List.length_map]; omega)
    rw [ec]
    have hc0 : H c = none := by
      rw [upd_ne n1.symm] at hc
      exact hc
    refine k l c _ (fun b o hb => ?_) hl3 ⟨ns, 0, 0, upd_same, by rw [upd_ne n2, upd_same], hl, Int.le_refl _, Int.le_refl _⟩
    rw [upd_ne (ne_of_none hb hl3), upd_ne (ne_of_none hb hc0), upd_ne (ne_of_none hb hp)]
    exact hb
theorem scDraw : FnScope ["_law_pen_here", "_law_many", "_law_digit", "_law_at", "_law_cell", "_law_great", "_law_stirred"] ["_law_pen_here", "_law_many"] (defScope sDraw) := ⟨rfl, rfl, rfl, by decide +kernel, rfl, by decide +kernel, by decide +kernel⟩
theorem ok_draw (F : Fun K "_law_draw" "_law_draw" sDraw f fd) (T : BT mg) : FnOk P w K mg base CX0 1 f fd ["_law_pen_here", "_law_many"] spDraw := by
  refine F.ok scDraw (fun vs H Q E h => ?_) (fun cdv A outer s H vs Q E hr h => ?_)
  · obtain ⟨l, c, many, k, rfl, _⟩ := h
    rfl
  · obtain ⟨l, c, many, k, rfl, PN, hk, m0, m1, q⟩ := h
    obtain ⟨cells, idx, g, hl, hc, h63, i0, i1⟩ := PN.ex
    have ncl : c ≠ l := ne_of hc hl (by
      intro z
      injection z with z
      cases cells with
      | nil => cases z
      | cons x r =>
        injection z with z _
        cases z)
    refine ⟨_, pss_cons (ps_if (pt_cmpR op_gt (pe_ix ix_list (pv 0) pe_int (fun _ _ => rfl)) pe_int (nomark _))
        (pss_cons (ps_set (i := 2) scDraw.nd rfl (Or.inl rfl) (pe_op op_mod (pe_callTy call_int1 (by rfl) T.int (by decide +kernel) (pa_cons (pe_ix ix_list (pv 0) pe_int (fun _ _ => rfl)) pa_nil)) (pv 1)))
        (pss_cons (ps_asg (pe_op op_fdiv (pe_callTy call_int1 (by rfl) T.int (by decide +kernel) (pa_cons (pe_ix ix_list (pv 0) pe_int (fun _ _ => rfl)) pa_nil)) (pv 1)) (pg_sub (pv 0) pe_int set_list))
        (pss_one (ps_ret (pv 2))))) pss_nil)
      (pss_cons (ps_set (i := 3) scDraw.nd rfl (Or.inl rfl) (pe_ix ix_list (pv 0) pe_int (fun _ _ => rfl)))
      (pss_cons (ps_asg (pe_op op_add (pv 3) pe_int) (pg_sub (pv 0) pe_int set_list))
      (pss_cons (ps_set (i := 4) scDraw.nd rfl (Or.inl rfl) (pe_op op_add (pe_op op_mul pe_int (pv 3)) pe_int))
      (C8.pss_cut (ps_if (pt_cmpR (op_neD hr.units) (pe_ix ix_list (pv 0) pe_int (fun _ _ => rfl)) (pe_lst pa_nil) (nomark _))
        (pss_one (ps_set (i := 4) scDraw.nd rfl (Or.inl rfl) (pe_ix ix_list (pe_ix ix_list (pv 0) pe_int (fun _ _ => rfl)) (pe_op op_mod (pe_callTy call_int1 (by rfl) T.int (by decide +kernel) (pa_cons (pv 3) pa_nil))
          (pe_callB call_len_seq (by rfl) T.len PySem.boot_len (pa_cons (pe_ix ix_list (pv 0) pe_int (fun _ _ => rfl)) pa_nil))) (fun _ _ => rfl)))) pss_nil)
      (C8.pss_cut (ps_if (PW.pt (pw_and (pt_cmpR op_lt (pv 3) (pe_callB call_len_seq (by rfl) T.len PySem.boot_len (pa_cons (pe_ix ix_list (pv 0) pe_int (fun _ _ => rfl)) pa_nil)) (nomark _))
          (pw_and1 (pt_cmpR op_ge (pe_callB call_abs (by rfl) T.abs (by decide +kernel) (pa_cons (pv 4) pa_nil)) (pe_op op_pow pe_int pe_int) (nomark _)))))
        (pss_cons (ps_set (i := 5) scDraw.nd rfl (Or.inl rfl) (pe_op op_add (pe_op op_mul pe_int (pe_op op_sub (pe_callB call_abs (by rfl) T.abs (by decide +kernel) (pa_cons (pv 4) pa_nil)) (pe_op op_pow pe_int pe_int)))
            (pe_callTy call_int1 (by rfl) T.int (by decide +kernel) (pa_cons (pe_cmpR op_lt (pv 4) pe_int (nomark _)) pa_nil))))
        (pss_cons (ps_asg (pe_op op_fdiv (pe_callTy call_int1 (by rfl) T.int (by decide +kernel) (pa_cons (pv 5) pa_nil)) (pv 1)) (pg_sub (pv 0) pe_int set_list))
        (pss_one (ps_ret (pe_op op_mod (pe_callTy call_int1 (by rfl) T.int (by decide +kernel) (pa_cons (pv 5) pa_nil)) (pv 1)))))) pss_nil)
      (pss_cons (ps_set (i := 6) scDraw.nd rfl (Or.inl rfl) (pe_op op_mod (pe_callTy call_int1 (by rfl) T.int (by decide +kernel) (pa_cons (pe_op op_pow (pe_op op_add (pe_op op_add (pe_op op_mod (pe_callTy call_int1 (by rfl) T.int (by decide +kernel) (pa_cons (pv 4) pa_nil)) pe_int)
          (pe_op op_mul pe_int (pv 3))) pe_int) pe_int) pa_nil)) pe_int))
      (pss_cons (ps_set (i := 6) scDraw.nd rfl (Or.inl rfl) (pe_op op_mod (pe_callTy call_int1 (by rfl) T.int (by decide +kernel) (pa_cons (pe_op op_pow (pe_op op_add (pe_op op_add (pe_op op_mul (pv 6) (pe_op op_add (pe_op op_mul pe_int (pv 3)) pe_int))
          (pe_op op_mul (pe_op op_mul pe_int (pv 3)) (pv 3))) pe_int) pe_int) pa_nil)) pe_int))
      (pss_one (ps_ret (pe_op op_mod (pe_callTy call_int1 (by rfl) T.int (by decide +kernel) (pa_cons (pe_op op_fdiv (pv 6) pe_int) pa_nil)) (pv 1))))))))))), ?_⟩
    have il0 : atI [V.ref c, V.int idx, V.int g] 0 = some (.ref c) := atI_nat (j := 0) rfl
    have fin : ∀ (r g' : Int) (H1 : Hp), 0 ≤ r → r < many → But l H H1 → H1 l = some (.lst [.ref c, .int idx, .int g']) → Q (.int r) H1 := fun r g' H1 r0 r1 b1 e =>
      q r H1 r0 r1 b1 ⟨cells, idx, g', e, b1 _ _ hc ncl, h63, i0, by omega⟩
    have fin2 : ∀ (r g' : Int) (H1 : Hp), 0 ≤ r → r < many → But l H H1 → H1 l = some (.lst [.ref c, .int (idx + 1), .int g']) → Q (.int r) H1 := fun r g' H1 r0 r1 b1 e =>
      q r H1 r0 r1 b1 ⟨cells, idx + 1, g', e, b1 _ _ hc ncl, h63, by omega, by omega⟩
    refine ⟨_, rfl, l, _, 2, _, rfl, rfl, SqL.of hl, atI_nat (j := 2) rfl, _, _, rfl, rfl, _, rfl, ite2 (fun hg => ?_) (fun hg => ?_)⟩
    · refine ⟨_, rfl, l, _, 2, _, rfl, rfl, SqL.of hl, atI_nat (j := 2) rfl, .inl ⟨_, rfl, _, rfl, _, _, rfl, rfl, m0, ?_⟩⟩
      refine ⟨_, rfl, l, _, 2, _, rfl, rfl, SqL.of hl, atI_nat (j := 2) rfl, .inl ⟨_, rfl, _, rfl, _, _, rfl, rfl, ⟨m0, by omega⟩, _, rfl, l, _, 2, 2, rfl, rfl, hl, rfl, _, rfl, ?_⟩⟩
      exact fin _ _ _ (Int.emod_nonneg _ (by omega)) (Int.emod_lt_of_pos _ m0) (fun b o hb hn => by rw [upd_ne hn]; exact hb) upd_same
    · refine ⟨_, rfl, l, _, 1, _, rfl, rfl, SqL.of hl, atI_nat (j := 1) rfl, ?_⟩
      refine ⟨_, rfl, _, _, rfl, rfl, _, rfl, l, _, 1, 1, rfl, rfl, hl, rfl, ?_⟩
      refine ⟨_, rfl, _, _, rfl, rfl, .inl ⟨by decide, by decide⟩, _, _, rfl, rfl, ?_⟩
      have hl1 : (upd H l (.lst [V.ref c, V.int (idx + 1), V.int g])) l = some (.lst [V.ref c, V.int (idx + 1), V.int g]) := upd_same
      have b0 : But l H (upd H l (.lst [V.ref c, V.int (idx + 1), V.int g])) := fun b o hb hn => by
        rw [upd_ne hn]
        exact hb
      refine ⟨fun σ H' => ∃ cell : Int, σ = [some (.ref l), some (.int many), none, some (.int idx), some (.int cell), none, none] ∧ But l H H' ∧ H' l = some (.lst [.ref c, .int (idx + 1), .int g]), ?_, ?_⟩
      · refine ⟨_, rfl, l, _, 0, _, rfl, rfl, SqL.of hl1, atI_nat (j := 0) rfl, by show 0 ≤ sizeLine; decide, fun p hp => ?_⟩
        have npl : l ≠ p := fun e => by
          rw [← e, upd_same] at hp
          cases hp
        have hl2 : (upd (upd H l (.lst [V.ref c, V.int (idx + 1), V.int g])) p (.lst [])) l = some (.lst [V.ref c, V.int (idx + 1), V.int g]) := by rw [upd_ne npl, upd_same]
        have b2 : But l H (upd (upd H l (.lst [V.ref c, V.int (idx + 1), V.int g])) p (.lst [])) := fun b o hb hn => by
          have e := b0 b o hb hn
          rw [upd_ne (ne_of_none e hp)]
          exact e
        have hc2 := b2 _ _ hc ncl
        have hp2 : (upd (upd H l (.lst [V.ref c, V.int (idx + 1), V.int g])) p (.lst [])) p = some (.lst []) := upd_same
        refine ⟨_, _, .lst (SqL.of hc2) (dp_ints cells), .lst (SqL.of hp2) .nil, ?_, shaped_nil, _, rfl, ?_⟩
        · exact PySem.W.shaped_ints cells
        · rw [eqv_nil]
          cases cells with
          | nil => exact ⟨_, rfl, b2, hl2⟩
          | cons x r =>
            have hn : (0 : Int) < ((List.map V.int (x :: r)).length : Nat) := by simp
            have e0 := Int.emod_nonneg idx (show ((List.map V.int (x :: r)).length : Int) ≠ 0 by omega)
            have e1 := Int.emod_lt_of_pos idx hn
            obtain ⟨j, ej⟩ : ∃ j : Nat, idx % ((List.map V.int (x :: r)).length : Nat) = (j : Int) := ⟨(idx % ((List.map V.int (x :: r)).length : Nat)).toNat, by omega⟩
            have hj : j < (x :: r).length := by
              rw [List.length_map] at e1 ej
              omega
            refine ⟨_, rfl, l, _, 0, _, rfl, rfl, SqL.of hl2, atI_nat (j := 0) rfl, _, rfl, .inl ⟨_, rfl, _, rfl, l, _, 0, _, rfl, rfl, SqL.of hl2, atI_nat (j := 0) rfl, c, _, rfl, .inl (SqL.of hc2), _, _, rfl, rfl, hn, c, _, _, V.int ((x :: r)[j]), rfl, rfl, SqL.of hc2, ?_, _, rfl, b2, hl2⟩⟩
            exact at_of (j := j) ej (by rw [List.getElem?_map, List.getElem?_eq_getElem hj]; rfl)
      · rintro σ H' ⟨cell, rfl, b3, hl3⟩
        have hc3 := b3 _ _ hc ncl
        refine ⟨fun σ H' => ∃ cell : Int, σ = [some (.ref l), some (.int many), none, some (.int idx), some (.int cell), none, none] ∧ But l H H' ∧ H' l = some (.lst [.ref c, .int (idx + 1), .int g]), ?_, ?_⟩
        · refine ⟨_, rfl, _, rfl, l, _, 0, _, rfl, rfl, SqL.of hl3, atI_nat (j := 0) rfl, c, _, rfl, .inl (SqL.of hc3), _, _, rfl, rfl, _, rfl, ite2 (fun ha => ?_) (fun ha => ?_)⟩
          · refine ⟨_, rfl, _, rfl, _, _, rfl, rfl, ⟨by decide, by decide, by decide⟩, _, _, rfl, rfl, _, rfl, ite2 (fun hb => ?_) (fun hb => ?_)⟩
            · have m2 : ∀ (gr : Int), _root_.True := fun _ => trivial
              refine ⟨_, rfl, _, rfl, _, _, rfl, rfl, ⟨by decide, by decide, by decide⟩, _, _, rfl, rfl, _, _, rfl, rfl, .inl ⟨by decide, by decide⟩, _, rfl, _, _, rfl, rfl, .inr ⟨_, rfl, _, _, rfl, rfl, ?_⟩⟩
              refine ⟨_, rfl, .inl ⟨_, rfl, _, rfl, _, _, rfl, rfl, ⟨m0, by omega⟩, _, rfl, l, _, 2, 2, rfl, rfl, hl3, rfl, _, rfl, .inl ⟨_, rfl, _, rfl, _, _, rfl, rfl, m0, ?_⟩⟩⟩
              refine fin2 _ _ _ (Int.emod_nonneg _ (by omega)) (Int.emod_lt_of_pos _ m0) (fun b o hb hn => ?_) upd_same
              rw [upd_ne hn]
              exact b3 _ _ hb hn
            · exact ⟨_, rfl, b3, hl3⟩
          · exact ⟨_, rfl, b3, hl3⟩
        · rintro σ H' ⟨cell, rfl, b3, hl3⟩
          refine ⟨_, rfl, .inl ⟨_, rfl, _, _, rfl, rfl, (by show (0 : Int) < _; decide), _, rfl, _, _, rfl, rfl, .inl ⟨by decide, by decide⟩, _, _, rfl, rfl, _, _, rfl, rfl, _, _, rfl, rfl, ⟨by decide, by decide, by omega⟩, .inl ⟨_, rfl, _, _, rfl, rfl, (by show (0 : Int) < _; decide), ?_⟩⟩⟩
          refine ⟨_, rfl, _, rfl, _, _, rfl, rfl, .inl ⟨by decide, by decide⟩, _, _, rfl, rfl, _, _, rfl, rfl, .inl ⟨by omega, by omega⟩, _, rfl, _, _, rfl, rfl, .inl ⟨by decide, by decide⟩, _, rfl, _, _, rfl, rfl, .inl ⟨by omega, by omega⟩, _, _, rfl, rfl, _, _, rfl, rfl, _, _, rfl, rfl, ⟨by decide, by decide, ?_⟩,
            .inl ⟨_, rfl, _, _, rfl, rfl, (by show (0 : Int) < _; decide), ?_⟩⟩
          · exact stir_bound (Int.emod_nonneg _ (by decide)) (Int.emod_lt_of_pos _ (by decide)) i0 (by omega) (by decide) (by decide) (by decide) (by decide) (by decide) (by decide)
          · refine ⟨_, rfl, _, _, rfl, rfl, ⟨by decide, by decide⟩, .inl ⟨_, rfl, _, rfl, _, _, rfl, rfl, m0, ?_⟩⟩
            exact fin2 _ _ _ (Int.emod_nonneg _ (by omega)) (Int.emod_lt_of_pos _ m0) b3 hl3
theorem scPick : FnScope ["_law_pen_here", "_law_some"] ["_law_pen_here", "_law_some"] (defScope sPick) := ⟨rfl, rfl, rfl, by decide +kernel, rfl, by decide +kernel, by decide +kernel⟩
theorem ok_pick {fD : Addr} {fdD : FuncData} (F : Fun K "_law_pick" "_law_pick" sPick f fd) (T : BT mg) (FD : Fun K "_law_draw" "_law_draw" sDraw fD fdD) (bD : Binds K fdD ["_law_pen_here", "_law_many"] []) (mD : mg "_law_draw" = some (.ref fD)) :
    FnOk P w K mg base CX0 2 f fd ["_law_pen_here", "_law_some"] spPick := by
  have GD : FnOk P w K mg base CX0 1 fD fdD ["_law_pen_here", "_law_many"] spDraw := ok_draw FD T
  refine F.ok scPick (fun vs H Q E h => ?_) (fun cdv A outer s H vs Q E hr h => ?_)
  · obtain ⟨l, c, m, xs, k, rfl, _⟩ := h
    rfl
  · obtain ⟨l, c, m, xs, k, rfl, PN, hk, hm, nml, x0, x1, q⟩ := h
    refine ⟨_, pss_one (ps_ret (pe_ix ix_list (pv 1) (pe_call GD hr (by rfl) mD FD.kp bD .nil pass0 (pa_cons (pv 0) (pa_cons (pe_callB call_len_seq (by rfl) T.len PySem.boot_len (pa_cons (pv 1) pa_nil)) pa_nil))) (fun _ _ => rfl))), ?_⟩
    refine ⟨_, rfl, _, rfl, _, rfl, m, _, rfl, .inl (SqL.of hm), l, c, _, k, rfl, PN, hk, by omega, by omega, fun r H' r0 r1 b1 p1 => ?_⟩
    obtain ⟨j, rfl⟩ : ∃ j : Nat, r = (j : Int) := ⟨r.toNat, by omega⟩
    have hj : j < xs.length := by omega
    exact ⟨m, xs, j, xs[j], rfl, rfl, SqL.of (b1 _ _ hm nml), atI_nat (List.getElem?_eq_getElem hj), q j _ H' (List.getElem?_eq_getElem hj) b1 p1⟩
end
end Pl

namespace Pl
open PySem L2 Own TL RZ
/-! ### str, repr -/
abbrev sStr : Stmt := inClass sPlace 13
abbrev sRepr : Stmt := inClass sPlace 14
theorem mem_joinL : ∀ (ps : List (List Nat)) (c : Nat), c ∈ joinL [47] ps → c = 47 ∨ ∃ p ∈ ps, c ∈ p
  | [], c, h => by cases h
  | [p], c, h => .inr ⟨p, List.mem_cons_self, h⟩
  | p :: q :: r, c, h => by
    have h : c ∈ p ++ ([47] ++ joinL [47] (q :: r)) := h
    rcases List.mem_append.mp h with h | h
    · exact .inr ⟨p, List.mem_cons_self, h⟩
    rcases List.mem_append.mp h with h | h
    · exact .inl (List.mem_singleton.mp h)
    · rcases mem_joinL (q :: r) c h with z | ⟨x, hx, hc⟩
      · exact .inl z
      · exact .inr ⟨x, List.mem_cons_of_mem _ hx, hc⟩
theorem okN_signs {s : Str} (h : okN s = true) : ∀ c ∈ tl s, c ∈ tl SIGNS := by
  unfold okN at h
  simp only [Bool.and_eq_true, decide_eq_true_eq, List.all_eq_true] at h
  intro c hc
  have z := h.2 c (by simpa [tl] using hc)
  simpa [tl] using z
theorem txt_signs {ns : List Str} (hn : Nms ns) : ∀ c ∈ tl (txt ns), c = 47 ∨ c ∈ tl SIGNS := by
  intro c hc
  rw [tl_txt] at hc
  rcases List.mem_cons.mp hc with h | h
  · exact .inl h
  · rcases mem_joinL _ _ h with z | ⟨p, hp, hc⟩
    · exact .inl z
    · obtain ⟨n, hm, rfl⟩ := List.mem_map.mp hp
      exact .inr (okN_signs (hn.2 n hm) c hc)
theorem txt_low {ns : List Str} (hn : Nms ns) : ∀ c ∈ (txt ns).cps.toList, c < 16 ^ 8 := by
  intro c hc
  have a : ∀ c ∈ tl SIGNS, c < 16 ^ 8 := by decide +kernel
  rcases txt_signs hn c (by simpa [tl] using hc) with z | z
  · rw [z]
    decide
  · exact a c z
def rtx (ns : List Str) : Str := reprText (txt ns)
theorem rtx_len {ns : List Str} (hn : Nms ns) : (rtx ns).length ≤ 1002 := by
  have a := StrLaws.reprText_len (txt ns) (txt_low hn)
  have b := txt_len hn
  show (reprText (txt ns)).length ≤ 1002
  omega
def shown (ns : List Str) : Str := Str.empty ++ ("Place(" : Str) ++ rtx ns ++ (")" : Str)
theorem shown_len {ns : List Str} (hn : Nms ns) : (shown ns).length ≤ 1100 := by
  have a := rtx_len hn
  unfold shown
  rw [strLen_append, strLen_append, strLen_append]
  have e1 : (Str.empty).length = 0 := rfl
  have e2 : ("Place(" : Str).length = 6 := by decide +kernel
  have e3 : (")" : Str).length = 1 := by decide +kernel
  omega
def spStr (C : Addr) : Sp := fun vs H Q _ => ∃ p ns, vs = [.ref p] ∧ PlA C H p ns ∧ Nms ns ∧ Q (.str (txt ns)) H
def spRepr (C : Addr) : Sp := fun vs H Q _ => ∃ p ns, vs = [.ref p] ∧ PlA C H p ns ∧ Nms ns ∧ Q (.str (shown ns)) H
section
variable {P : Program} {w : World} {K : PySem.W.Frag} {mg : Str → Option Value} {base : Heap} {f C : Addr} {mc : Value} {fd : FuncData}
theorem scStr : FnScope ["self"] ["self"] (defScope sStr) := ⟨rfl, rfl, rfl, by decide +kernel, rfl, by decide +kernel, by decide +kernel⟩
theorem ok_strP {gT pT : Addr} {fdT : FuncData} (F : Fun K "__str__" "Place.__str__" sStr f fd) (U : CT K mg C mc) (GT_ : FnOk P w K mg base CX0 1 gT fdT ["self"] (spText C)) (bT : Binds K fdT ["self"] []) (hp : PropOf K C "text" pT gT) :
    FnOk P w K mg base CX0 3 f fd ["self"] (spStr C) := by
  refine F.ok scStr (fun vs H Q E h => ?_) (fun cdv A outer s H vs Q E hr h => ?_)
  · obtain ⟨p, ns, rfl, _⟩ := h
    rfl
  · obtain ⟨p, ns, rfl, Pa, hn, q⟩ := h
    obtain ⟨dx, t, h1, h2⟩ := id Pa
    refine ⟨_, pss_one (ps_ret (pe_fs1 (pe_fmt (pe_prop (pv 0) U.cl hp GT_ hr bT .nil pass0 rfl)))), ?_⟩
    exact ⟨_, rfl, p, dx, _, rfl, h1, p, ns, rfl, Pa, hn, .inl ⟨_, rfl, Nat.le_trans (txt_len hn) (by decide), q⟩⟩
theorem scRepr : FnScope ["self"] ["self"] (defScope sRepr) := ⟨rfl, rfl, rfl, by decide +kernel, rfl, by decide +kernel, by decide +kernel⟩
theorem ok_reprP {gT pT : Addr} {fdT : FuncData} (F : Fun K "__repr__" "Place.__repr__" sRepr f fd) (U : CT K mg C mc) (GT_ : FnOk P w K mg base CX0 1 gT fdT ["self"] (spText C)) (bT : Binds K fdT ["self"] []) (hp : PropOf K C "text" pT gT) :
    FnOk P w K mg base CX0 3 f fd ["self"] (spRepr C) := by
  refine F.ok scRepr (fun vs H Q E h => ?_) (fun cdv A outer s H vs Q E hr h => ?_)
  · obtain ⟨p, ns, rfl, _⟩ := h
    rfl
  · obtain ⟨p, ns, rfl, Pa, hn, q⟩ := h
    obtain ⟨dx, t, h1, h2⟩ := id Pa
    have a := rtx_len hn
    have b := shown_len hn
    refine ⟨_, pss_one (ps_ret (pe_joined (.cons pe_str (.cons (pe_fmtR (pe_prop (pv 0) U.cl hp GT_ hr bT .nil pass0 rfl)) (.cons pe_str .nil))))), ?_⟩
    refine ⟨_, rfl, by decide +kernel, _, rfl, p, dx, _, rfl, h1, p, ns, rfl, Pa, hn, .inl ⟨_, rfl, Nat.le_trans a (by decide), _, rfl, ?_, _, rfl, Nat.le_trans b (by decide), q⟩⟩
    have e1 : (Str.empty ++ ("Place(" : Str)).length = 6 := by decide +kernel
    rw [strLen_append, e1]
    have : (2000 : Nat) ≤ sizeLine := by decide
    show 6 + (rtx ns).length ≤ sizeLine
    omega
end
end Pl

namespace Pl
open PySem L2 Own TL RZ
/-! ### what is no place -/
abbrev sIniN : Stmt := inClass (top 3) 0
abbrev sIniP : Stmt := inClass (top 4) 0
abbrev sIniM : Stmt := inClass (top 5) 0
/-- a thing of another kind -/
def Fo (K : PySem.W.Frag) (C : Addr) (H : Hp) (x : V) : Prop := ∃ t, TyX K H x t ∧ PySem.W.kitOne K t (.ref C) = some false
def spEqF (K : PySem.W.Frag) (C : Addr) : Sp := fun vs H Q _ => ∃ p x, vs = [.ref p, x] ∧ Fo K C H x ∧ Q (.bl false) H
def spAheadF (K : PySem.W.Frag) (C CB : Addr) : Sp := fun vs H _ E => ∃ p x, vs = [.ref p, x] ∧ Fo K C H x ∧ ∀ d, H d = none → E (.ref CB) (some d) (upd H d (.xd [("value", x)]))
section
variable {P : Program} {w : World} {K : PySem.W.Frag} {mg : Str → Option Value} {base : Heap} {f C : Addr} {mc : Value} {fd : FuncData}
theorem ok_eqF (F : Fun K "__eq__" "Place.__eq__" sEq f fd) (T : BT mg) (U : CT K mg C mc) : FnOk P w K mg base CX0 1 f fd ["self", "other"] (spEqF K C) := by
  refine F.ok scEq (fun vs H Q E h => ?_) (fun cdv A outer s H vs Q E hr h => ?_)
  · obtain ⟨p, x, rfl, _⟩ := h
    rfl
  · obtain ⟨p, x, rfl, ⟨t, ty, kt⟩, q⟩ := h
    refine ⟨_, pss_one (ps_ret (pe_and (pe_callB call_isi (by rfl) T.isi (by decide +kernel) (pa_cons (pv 1) (pa_cons (pe_glob (v := .ref C) (by rfl) U.mgC rfl) pa_nil)))
      (pe_one (pe_cmpR (op_eqD hr.units) (pe_fld (pv 0) rfl) (pe_fld (pv 1) rfl) (nomark _))))), ?_⟩
    refine ⟨_, rfl, _, _, _, _, false, rfl, .own C, ty, kt, false, rfl, ?_⟩
    exact iteF q
theorem scIniP : FnScope ["self", "value"] ["self", "value"] (defScope sIniP) := ⟨rfl, rfl, rfl, by decide +kernel, rfl, by decide +kernel, by decide +kernel⟩
theorem ok_iniP {CB fI : Addr} {fdI : FuncData} (T : Er K mg "BadPlace" "BadPlace.__init__" "value" sIniP CB fI fdI) : FnOk P w K mg base CX0 1 fI fdI ["self", "value"] (spErr CB "value") :=
  ok_err T scIniP rfl (by decide +kernel) (by decide +kernel)
theorem ok_aheadF {CB fI : Addr} {fdI : FuncData} (F : Fun K "is_ahead" "Place.is_ahead" sAhead f fd) (T : BT mg) (U : CT K mg C mc) (TB : Er K mg "BadPlace" "BadPlace.__init__" "value" sIniP CB fI fdI) :
    FnOk P w K mg base (L2.CX P w) 3 f fd ["self", "b"] (spAheadF K C CB) := by
  have GI : FnOk P w K mg base CX0 1 fI fdI ["self", "value"] (spErr CB "value") := ok_iniP TB
  refine F.okX scAhead (fun vs H Q E h => ?_) (fun cdv A outer s H vs Q E hr h => ?_)
  · obtain ⟨p, x, rfl, _⟩ := h
    rfl
  · obtain ⟨p, x, rfl, ⟨t, ty, kt⟩, k⟩ := h
    refine ⟨_, pss_cons (ps_if (pt_not (pt_val (pe_callB call_isi (by rfl) T.isi (by decide +kernel) (pa_cons (pv 1) (pa_cons (pe_glob (v := .ref C) (by rfl) U.mgC rfl) pa_nil)))))
        (pss_one (ps_raise1 rfl TB GI hr (takes_of rfl rfl rfl rfl) (by rfl) (pa_cons (pv 1) pa_nil))) pss_nil)
      (pss_one ps_never), ?_⟩
    refine ⟨_, rfl, _, _, _, _, false, rfl, .own C, ty, kt, false, rfl, ?_⟩
    refine iteT ?_
    exact ⟨_, rfl, mk1 k⟩
end
end Pl

namespace Pl
open PySem L2 Own TL RZ LamX
/-! ### what is heard of a call -/
abbrev sHeard : Stmt := top 20
abbrev Ngh : List Str := ["_law_ask", "_law_caught", "_law_found", "error"]
theorem scHeard : FnScope Ngh ["_law_ask"] (defScope sHeard) := ⟨rfl, rfl, rfl, by decide +kernel, rfl, by decide +kernel, by decide +kernel⟩
/-- the def's work behind the try, its values in σ -/
def hRest (K : PySem.W.Frag) (CB : Addr) : TS := tSeq (tIfS (tTest (tOp (fun x y H Q => y = V.non ∧ Q (V.bl (decide (x = V.non))) H) (tVar 1) (tC V.non))) (tRet (tLst (tCons (tVar 2) tNil))) tNext)
  (tRet (tIf (tB (tCB (rIsK K) (tCons (tVar 1) (tCons (tC (V.ref CB)) tNil)))) (tTup (tCons (tC (V.str "place")) (tCons (tKxf CB "value" (tVar 1)) tNil))) (tTup (tCons (tC (V.str "odd")) tNil))))
def hOk (K : PySem.W.Frag) (CB f : Addr) (v : V) (H1 : Hp) (Q : VK) : Prop := hRest K CB { nx := fun _ H' => Q .non H', rt := Q } [some (.ref f), some .non, some v, none] H1
theorem hOk_of {K : PySem.W.Frag} {CB f : Addr} {v : V} {H1 : Hp} {Q : VK} (h : ∀ p, H1 p = none → Q (.ref p) (upd H1 p (.lst [v]))) : hOk K CB f v H1 Q :=
  ⟨_, rfl, rfl, _, rfl, iteT ⟨_, rfl, by show 1 ≤ sizeLine; decide, fun p hp => h p hp⟩⟩
/-- what the def tells of the lambda's reading: its thing in a list; the error's kind and its value -/
def TTh (K : PySem.W.Frag) (CB : Addr) (tl : XK → Hp → VK → Prop) : Hp → VK → Prop := fun H Q => ∀ f,
  tl (fun cls d H' => ∃ (dd : Addr) (v : V), cls = .ref CB ∧ d = some dd ∧ H' dd = some (.xd [("value", v)]) ∧ ∀ a p, H' a = none → H' p = none → p ≠ a → Q (.ref p) (upd (upd H' a (kex a (.ref CB) (some dd))) p (.tup [.str "place", v])))
    H (fun v H1 => hOk K CB f v H1 Q)
/-- the errors' classes -/
structure ErF (K : PySem.W.Frag) (mg : Str → Option Value) (CB CT : Addr) : Prop where
  mgT : mg "TableError" = some (.ref CT)
  mgB : mg "BadPlace" = some (.ref CB)
  ex : PySem.W.exmOne K (.ref CB) (.ref CT) = some true
  kB : PySem.W.kitOne K (.ref CB) (.ref CB) = some true
  xc : ExcC K CB
  fld : XfC K CB
  nf : PySem.W.findIn K (.ref CB) "value" = some none
theorem heard_gives {X : Cx} {g CB CT : Addr} {cdg : Value} {q : Str} (T : ErF X.K X.mg CB CT) (hi : X.mg "isinstance" = none) :
    GivesTo X Ngh "_law_heard" (defScope sHeard) g cdg (defBody sHeard) "_law_ask" q (TTh X.K CB) := by
  intro f c' s H Q tl act hc h
  refine ⟨_, pss_cons (ps_set (i := 1) scHeard.nd rfl (Or.inl rfl) pe_non) (pss_cons (ps_set (i := 2) scHeard.nd rfl (Or.inl rfl) pe_non) (pss_cons (ps_ask (X := X) (Ng := Ngh) (x := "_law_heard") (sg := defScope sHeard) (g := g) (cdg := cdg) (s := s) (H := H) (a := "_law_ask") (q := q) (CS := CT) (f := f) (c' := c') (tl := tl) (i := 3) (j := 1) (m := 2)
      act (by decide +kernel) rfl rfl rfl rfl rfl rfl (by decide) rfl rfl T.mgT)
    (pss_cons (ps_if (pt_cmpR op_isN (pv 1) pe_non (nomark _)) (pss_one (ps_ret (pe_lst (pa_cons (pv 2) pa_nil)))) pss_nil)
    (pss_one (ps_ret (pe_ifExp (pt_val (pe_callB call_isK (by rfl) hi (by decide +kernel) (pa_cons (pv 1) (pa_cons (pe_glob (v := .ref CB) (by rfl) T.mgB rfl) pa_nil))))
      (pe_tup (pa_cons pe_str (pa_cons (pe_kxf T.fld T.nf (pv 1)) pa_nil))) (pe_tup (pa_cons pe_str pa_nil)))))))), ?_⟩
  refine ⟨_, rfl, hc, h f, fun cls d σ' H' hl hE => ?_⟩
  obtain ⟨dd, v, rfl, rfl, hd, k⟩ := hE
  refine ⟨true, T.ex, fun _ a na => ?_, fun z => by cases z⟩
  match σ', hl with
  | [x0, x1, x2, x3], _ =>
    have nad : dd ≠ a := ne_of_none hd na
    refine ⟨_, rfl, rfl, _, rfl, iteF ?_⟩
    refine ⟨_, rfl, a, CB, some dd, _, _, true, rfl, upd_same, fun dd' e => ?_, T.xc, .own CB, T.kB, true, rfl, iteT ?_⟩
    · cases e
      exact ⟨_, by rw [upd_ne nad]; exact hd⟩
    · refine ⟨_, rfl, a, dd, _, v, rfl, upd_same, by rw [upd_ne nad]; exact hd, by simp [List.lookup], by show 2 ≤ sizeLine; decide, fun p hp => ?_⟩
      have hpa : p ≠ a := fun z => by
        rw [z, upd_same] at hp
        cases hp
      rw [upd_ne hpa] at hp
      exact k a p na hp hpa
end Pl

namespace Pl
open PySem L2 Own TL RZ LamX
structure Ad where
  (C CB CT gAdd gEq gStr gRepr gAhead gNames pNames gText pText gRead pRead fMk fDraw fPick fPen : Addr)
  mc : Value
  (fdAhead fdNames fdText fdDraw fdPick fdPen : FuncData)
/-- what the program's methods do -/
structure Wo (P : Program) (w : World) (K : PySem.W.Frag) (mg : Str → Option Value) (base : Heap) (a : Ad) : Prop where
  T : GT mg
  repr : mg "repr" = none
  tuple : mg "tuple" = none
  U : CT K mg a.C a.mc
  R : ErF K mg a.CB a.CT
  sf : PySem.W.selfFirst K a.C = true
  ne : PySem.W.findIn K (.ref a.C) "__ne__" = some (some (.builtin "object.__ne__"))
  sub : PySem.W.subIn K (.ref a.C) (.type "object") = some true
  mAdd : Meth K a.C "__add__" a.gAdd
  cAdd : FnR P w K mg base CX0 4 a.gAdd (spAdd a.C)
  mEq : Meth K a.C "__eq__" a.gEq
  cEq : FnR P w K mg base CX0 1 a.gEq (spEq a.C)
  cEqF : FnR P w K mg base CX0 1 a.gEq (spEqF K a.C)
  mStr : Meth K a.C "__str__" a.gStr
  cStr : FnR P w K mg base CX0 3 a.gStr (spStr a.C)
  mRepr : Meth K a.C "__repr__" a.gRepr
  cRepr : FnR P w K mg base CX0 3 a.gRepr (spRepr a.C)
  mAhead : Meth K a.C "is_ahead" a.gAhead
  cAhead : FnOk P w K mg base CX0 3 a.gAhead a.fdAhead ["self", "b"] (spAhead a.C)
  cAheadF : FnOk P w K mg base (L2.CX P w) 3 a.gAhead a.fdAhead ["self", "b"] (spAheadF K a.C a.CB)
  bAhead : Binds K a.fdAhead ["self", "b"] []
  kAhead : ∀ (s : Shared) (u v : Value), K.In s.heap → BindsTo s a.fdAhead ⟨[u], [("b", v)]⟩ [("self", u), ("b", v)]
  pNames : PropOf K a.C "names" a.pNames a.gNames
  cNames : FnOk P w K mg base CX0 1 a.gNames a.fdNames ["self"] (spNames a.C)
  bNames : Binds K a.fdNames ["self"] []
  pText : PropOf K a.C "text" a.pText a.gText
  cText : FnOk P w K mg base CX0 1 a.gText a.fdText ["self"] (spText a.C)
  bText : Binds K a.fdText ["self"] []
  mRead : ClX.CMet K a.C a.mc "read" a.pRead a.gRead
  cRead : FnR P w K mg base CX0 4 a.gRead (spRead a.C)
  mMk : Mk K a.C a.fMk
  cMk : FnR P w K mg base CX0 2 a.fMk (spMk a.C)
  mDraw : mg "_law_draw" = some (.ref a.fDraw)
  kDraw : PySem.W.keepIn K (.ref a.fDraw) = true
  cDraw : FnOk P w K mg base CX0 1 a.fDraw a.fdDraw ["_law_pen_here", "_law_many"] spDraw
  bDraw : Binds K a.fdDraw ["_law_pen_here", "_law_many"] []
  mPick : mg "_law_pick" = some (.ref a.fPick)
  kPick : PySem.W.keepIn K (.ref a.fPick) = true
  cPick : FnOk P w K mg base CX0 2 a.fPick a.fdPick ["_law_pen_here", "_law_some"] spPick
  bPick : Binds K a.fdPick ["_law_pen_here", "_law_some"] []
  mPen : mg "_law_pen" = some (.ref a.fPen)
  kPen : PySem.W.keepIn K (.ref a.fPen) = true
  cPen : FnOk P w K mg base CX0 1 a.fPen a.fdPen ["_law_script"] (spPen K)
  bPen : Binds K a.fdPen ["_law_script"] []
theorem PlA.but {C l : Addr} {H H' : Hp} {p : Addr} {ns : List Str} {xs : List V} (h : PlA C H p ns) (b : But l H H') (hl : H l = some (.lst xs)) : PlA C H' p ns := by
  obtain ⟨dx, t, h1, h2⟩ := h
  exact ⟨dx, t, b _ _ h1 (ne_of h1 hl (by intro z; cases z)), b _ _ h2 (ne_of h2 hl (by intro z; cases z))⟩
theorem PenAt.lst {H : Hp} {l c : Addr} {k : Nat} (p : PenAt H l c k) : ∃ xs, H l = some (.lst xs) := by
  obtain ⟨cells, idx, g, h1, _⟩ := p.ex
  exact ⟨_, h1⟩

/-- a list of one's own beside the pen -/
theorem PenAt.put {H : Hp} {l c D : Addr} {k : Nat} {o : HO} (p : PenAt H l c k) (h1 : D ≠ l) (h2 : D ≠ c) : PenAt (upd H D o) l c k := by
  obtain ⟨cells, idx, g, a1, a2, a3⟩ := p.ex
  exact ⟨cells, idx, g, by rw [upd_ne h1.symm]; exact a1, by rw [upd_ne h2.symm]; exact a2, a3⟩
theorem PenAt.cell {H : Hp} {l c : Addr} {k : Nat} (p : PenAt H l c k) : ∃ xs, H c = some (.lst xs) := by
  obtain ⟨cells, idx, g, a1, a2, a3⟩ := p.ex
  exact ⟨_, a2⟩
/-! ### names drawn -/
abbrev sNms : Stmt := top 17
/-- a pool of names, not the pen -/
structure Pool (H : Hp) (l m : Addr) (pool : List Str) : Prop where
  at_ : H m = some (.lst (pool.map V.str))
  ne : m ≠ l
  some_ : pool ≠ []
  few : pool.length < 1000
  ok : ∀ n ∈ pool, okN n = true
theorem Pool.but {H H' : Hp} {l m : Addr} {pool : List Str} (p : Pool H l m pool) (b : But l H H') : Pool H' l m pool := ⟨b _ _ p.at_ p.ne, p.ne, p.some_, p.few, p.ok⟩
def spNms : Sp := fun vs H Q _ => ∃ (l c m : Addr) (pool : List Str) (k : Nat), vs = [.ref l, .ref m] ∧ PenAt H l c k ∧ k ≤ 90000 ∧ Pool H l m pool ∧
  ∀ t ns H', But l H H' → H' t = some (.tup (ns.map V.str)) → Nms ns → (∀ n ∈ ns, n ∈ pool) → PenAt H' l c (k + 9) → Q (.ref t) H'
section
variable {P : Program} {w : World} {K : PySem.W.Frag} {mg : Str → Option Value} {base : Heap} {a : Ad} {f : Addr} {fd : FuncData}
theorem scNms : FnScope ["_law_pen_here", "_law_pool", "_law_k"] ["_law_pen_here", "_law_pool"] (defScope sNms) := ⟨rfl, rfl, rfl, by decide +kernel, rfl, by decide +kernel, by decide +kernel⟩
theorem ok_nms (W : Wo P w K mg base a) (F : Fun K "_law_names" "_law_names" sNms f fd) : FnOk P w K mg base CX0 4 f fd ["_law_pen_here", "_law_pool"] spNms := by
  refine F.ok scNms (fun vs H Q E h => ?_) (fun cdv A outer s H vs Q E hr h => ?_)
  · obtain ⟨l, c, m, pool, k, rfl, _⟩ := h
    rfl
  · obtain ⟨l, c, m, pool, k, rfl, PN, hk, PO, q⟩ := h
    obtain ⟨lx, hlx⟩ := PN.lst
    refine ⟨_, pss_one (ps_ret (pe_callTy call_tuple_of (by rfl) W.tuple (by decide +kernel) (pa_cons (pe_lc (own := [("_law_k", 2)]) (g := gName 2) (tt := tYes) rfl scNms.nd
        (pi_range1 (by rfl) W.T.b.range (pa_cons (pe_call W.cPick (hr.mono (by decide)) (by rfl) W.mPick W.kPick W.bPick .nil pass0 (pa_cons (pv 0) (pa_cons (pe_lst (pa_cons pe_int (pa_cons pe_int (pa_cons pe_int (pa_cons pe_int (pa_cons pe_int (pa_cons pe_int (pa_cons pe_int pa_nil)))))))) pa_nil))) pa_nil))
        (blkOk_by (own := [("_law_k", 2)]) (N := ["_law_pen_here", "_law_pool", "_law_k"]) (sc := defScope sNms) (by decide +kernel)) (fun _ _ _ _ _ => pg_name (i := 2) scNms.nd rfl (Or.inl rfl)) (fun _ _ _ _ _ => pts_nil)
        (fun _ _ _ _ _ => pe_call W.cPick (hr.mono (by decide)) (by rfl) W.mPick W.kPick W.bPick .nil pass0 (pa_cons (pv 0) (pa_cons (pv 1) pa_nil)))) pa_nil))), ?_⟩
    refine ⟨_, rfl, ⟨by show 7 ≤ sizeLine; decide, fun ml hml => ⟨l, c, ml, _, k, rfl, PN.mono (fun b o hb => by
      rw [upd_ne (ne_of_none hb hml)]
      exact hb) (Nat.le_refl _), by omega, upd_same, fun e => ?_, by show 0 < 7; decide, by show 7 < 1000000; decide, fun j x H2 hj b2 p2 => ?_⟩⟩⟩
    · rw [e, hlx] at hml
      cases hml
    · have bH : But l H H2 := fun b o hb hn => b2 b o (by
        rw [upd_ne (ne_of_none hb hml)]
        exact hb) hn
      obtain ⟨n, rfl, hn8⟩ : ∃ n : Nat, x = .int n ∧ n ≤ 8 := by
        have hx := List.mem_of_getElem? hj
        simp only [List.mem_cons, List.not_mem_nil, or_false] at hx
        rcases hx with h | h | h | h | h | h | h
        · exact ⟨0, h, by omega⟩
        · exact ⟨1, h, by omega⟩
        · exact ⟨1, h, by omega⟩
        · exact ⟨2, h, by omega⟩
        · exact ⟨2, h, by omega⟩
        · exact ⟨3, h, by omega⟩
        · exact ⟨8, h, by omega⟩
      obtain ⟨lx2, hl2⟩ := p2.lst
      obtain ⟨lc2, hc2⟩ := p2.cell
      refine ⟨n, rfl, by omega, by omega, fun D hD => lc_it (walk_range (lo := 0) (n := (n : Int).toNat)) (fun i H' => But l H H' ∧ ∃ ns, H' D = some (.lst (ns.map V.str)) ∧ ns.length = i ∧ (∀ x ∈ ns, x ∈ pool) ∧ PenAt H' l c (k + 1 + i))
        ⟨fun b o hb hb2 => ?_, [], upd_same, rfl, by simp, p2.mono (fun b o hb => ?_) (Nat.le_refl _)⟩ (fun _ _ _ _ => trivial) (fun i x H3 H4 hi p y => ?_) (fun H3 p => ?_)⟩
      · have := bH b o hb hb2
        rw [upd_ne (ne_of_none this hD)]
        exact this
      · rw [upd_ne (ne_of_none hb hD)]
        exact hb
      · obtain ⟨b3, ns, hD3, hl3, hin, p3⟩ := p
        obtain ⟨rfl, rfl⟩ := y
        have hi8 : i < 8 := by omega
        obtain ⟨lx3, hlx3⟩ := p3.lst
        have PO3 := PO.but b3
        have hDl : D ≠ l := ne_of_none hl2 hD |>.symm
        refine ⟨rfl, _, rfl, _, rfl, l, c, m, _, k + 1 + i, rfl, p3, by omega, PO3.at_, PO.ne, ?_, by rw [List.length_map]; exact Nat.lt_trans PO.few (by decide), fun j x H5 hj b5 p5 => ?_⟩
        · rw [List.length_map]
          exact List.length_pos_iff.mpr PO.some_
        · rw [List.getElem?_map] at hj
          obtain ⟨nm, hnm, rfl⟩ := Option.map_eq_some_iff.mp hj
          have hmem := List.mem_of_getElem? hnm
          have hD5 := b5 _ _ hD3 hDl
          refine ⟨_, hD5, by rw [List.length_map, hl3]; exact Nat.lt_trans hi8 (by decide), fun b o hb hb2 => ?_, ns ++ [nm], by rw [upd_same, List.map_append]; rfl, by rw [List.length_append, List.length_singleton, hl3], fun z hz => ?_, ?_⟩
          · have nD : b ≠ D := fun z => by
              have := bH b o hb hb2
              rw [z, hD] at this
              cases this
            rw [upd_ne nD]
            exact b5 _ _ (b3 _ _ hb hb2) hb2
          · rcases List.mem_append.mp hz with h | h
            · exact hin z h
            · rw [List.mem_singleton.mp h]
              exact hmem
          · exact (p5.mono (Same.refl _) (by omega)).put hDl (ne_of_none hc2 hD).symm
      · obtain ⟨b3, ns, hD3, hl3, hin, p3⟩ := p
        obtain ⟨lx3, hlx3⟩ := p3.lst
        refine ⟨D, _, rfl, .inl ⟨SqL.of hD3, fun t ht => q t ns _ (fun b o hb hn => ?_) upd_same ⟨by omega, fun x hx => PO.ok x (hin x hx)⟩ hin (p3.mono (fun b o hb => ?_) (by omega))⟩⟩
        · have := b3 b o hb hn
          rw [upd_ne (ne_of_none this ht)]
          exact this
        · rw [upd_ne (ne_of_none hb ht)]
          exact hb
end
end Pl

namespace Pl
open PySem L2 Own TL RZ LamX
/-! ### a place of these names, made in some way -/
abbrev sMade : Stmt := top 18
def spMade (C : Addr) : Sp := fun vs H Q _ => ∃ (l c t : Addr) (ns : List Str) (k : Nat), vs = [.ref l, .ref t] ∧ PenAt H l c k ∧ k ≤ 90000 ∧ H t = some (.tup (ns.map V.str)) ∧ Nms ns ∧
  ∀ p H', But l H H' → PlA C H' p ns → PenAt H' l c (k + 1) → Q (.ref p) H'
section
variable {P : Program} {w : World} {K : PySem.W.Frag} {mg : Str → Option Value} {base : Heap} {a : Ad} {f : Addr} {fd : FuncData}
theorem scMade : FnScope ["_law_pen_here", "_law_some", "_law_way", "_law_found", "_law_name"] ["_law_pen_here", "_law_some"] (defScope sMade) := ⟨rfl, rfl, rfl, by decide +kernel, rfl, by decide +kernel, by decide +kernel⟩
theorem ok_made (W : Wo P w K mg base a) (F : Fun K "_law_made" "_law_made" sMade f fd) : FnOk P w K mg base CX0 6 f fd ["_law_pen_here", "_law_some"] (spMade a.C) := by
  refine F.ok scMade (fun vs H Q E h => ?_) (fun cdv A outer s H vs Q E hr h => ?_)
  · obtain ⟨l, c, t, ns, k, rfl, _⟩ := h
    rfl
  · obtain ⟨l, c, t, ns, k, rfl, PN, hk, ht, hn, q⟩ := h
    have hr1 : Room 1 _ := hr.mono (by decide)
    have hr3 : Room 3 _ := hr.mono (by decide)
    have hr4 : Room 4 _ := hr.mono (by decide)
    obtain ⟨lx, hlx⟩ := PN.lst
    have ntl : t ≠ l := ne_of ht hlx (by intro z; cases z)
    refine ⟨_, pss_cons (ps_set (i := 2) scMade.nd rfl (Or.inl rfl) (pe_call W.cDraw hr1 (by rfl) W.mDraw W.kDraw W.bDraw .nil pass0 (pa_cons (pv 0) (pa_cons pe_int pa_nil))))
      (pss_cons (ps_if (pt_cmpR op_eq (pv 2) pe_int (nomark _)) (pss_one (ps_ret (ClX.pe_cmeth (pe_glob (v := .ref a.C) (by rfl) W.U.mgC rfl) W.U.rd W.mRead W.cRead hr4 pass0 (pa_cons (pe_op op_add_str pe_str (pe_join pe_str (pv 1))) pa_nil)))) pss_nil)
      (pss_cons (ps_if (PW.pt (pw_and (pt_cmpR op_eq (pv 2) pe_int (nomark _)) (pw_and1 (pt_cmpR op_eq (pe_callB call_len_seq (by rfl) W.T.b.len PySem.boot_len (pa_cons (pv 1) pa_nil)) pe_int (nomark _)))))
        (pss_one (ps_ret (StX.pe_makeR W.mMk W.cMk hr3 (by rfl) W.U.mgC pass0 (pa_cons (pe_ix ix_tup (pv 1) pe_int (fun _ _ => rfl)) (pa_cons (pe_ix ix_tup (pv 1) pe_int (fun _ _ => rfl)) pa_nil))))) pss_nil)
      (pss_cons (ps_set (i := 3) scMade.nd rfl (Or.inl rfl) (pe_makeR0 W.mMk W.cMk hr3 (by rfl) W.U.mgC pass0))
      (pss_cons (ps_for PassesOwn.never rfl (pi_tup (pv 1)) (pg_name (i := 4) scMade.nd rfl (Or.inl rfl))
        (pss_one (ps_set (i := 3) scMade.nd rfl (Or.inl rfl) (pe_op (op_addS W.sf W.mAdd.at_ W.mAdd.fn W.cAdd hr4 pass0) (pv 3) (pv 4)))))
      (pss_one (ps_ret (pv 3))))))), ?_⟩
    refine ⟨_, rfl, l, c, _, k, rfl, PN, by omega, by decide, by decide, fun r H1 r0 r3 b1 p1 => ?_⟩
    have ht1 := b1 _ _ ht ntl
    obtain ⟨lx1, hlx1⟩ := p1.lst
    refine ⟨_, rfl, rfl, _, rfl, ite2 (fun h0 => ?_) (fun h0 => ?_)⟩
    · -- read
      refine ⟨rfl, ⟨_, rfl⟩, _, rfl, _, t, ns, rfl, rfl, .inr (SqT.of ht1), join_room hn, _, _, rfl, rfl, ?_, ns, rfl, hn, fun p H2 s2 Pp => ?_⟩
      · have a := join_len hn
        have l1 : ("/" : Str).length = 1 := by decide +kernel
        rw [l1]
        have : (1000 : Nat) ≤ sizeLine := by decide
        omega
      · exact q p H2 (b1.trans (But.same s2)) Pp (p1.mono s2 (Nat.le_refl _))
    · refine ⟨_, rfl, rfl, _, rfl, ite2 (fun h1 => ⟨_, rfl, t, _, rfl, .inr (SqT.of ht1), rfl, _, rfl, ite2 (fun h2 => ?mk) (fun h2 => ?t1)⟩) (fun h1 => iteF ?t2)⟩
      case mk =>
        have h2' : ns.length = 2 := by
          have z := of_decide_eq_true h2
          injection z with z
          rw [List.length_map] at z
          omega
        match ns, h2' with
        | [x, y], _ =>
          refine ⟨_, rfl, t, _, _, _, rfl, rfl, SqT.of ht1, rfl, _, rfl, t, _, _, _, rfl, rfl, SqT.of ht1, rfl, fun p dx hp hdx hne => ?_⟩
          exact make_at (C := a.C) (ns := [x, y]) hn hp hdx hne fun H2 s2 Pp => q p H2 (b1.trans (But.same s2)) Pp (p1.mono s2 (Nat.le_refl _))
      all_goals
        intro p0 dx0 hx0 hdx0 hne0
        refine make_at (C := a.C) (ns := []) ⟨by simp, by simp⟩ hx0 hdx0 hne0 (fun H2 s2 P0 => ?_)
        have ht2 := s2 _ _ ht1
        refine ⟨_, rfl, t, rfl, ⟨_, SqT.of ht2⟩, for_it walk_tup (fun i σ H' => ∃ p v, σ = [some (.ref l), some (.ref t), some (.int r), some (.ref p), v] ∧ Same H2 H' ∧ PlA a.C H' p (ns.take i)) ⟨p0, none, rfl, Same.refl _, P0⟩
          (fun i σ H' _ e => by
            obtain ⟨_, _, _, s3, _⟩ := e
            exact SqT.of (s3 _ _ ht2)) (fun i x σ H3 H4 hi e y => ?_) (fun σ H3 e => ?_)⟩
        · obtain ⟨p, v, rfl, s3, P3⟩ := e
          obtain ⟨rfl, hx⟩ := y
          rw [List.getElem?_map] at hx
          obtain ⟨nm, hnm, rfl⟩ := Option.map_eq_some_iff.mp hx
          obtain ⟨dx, tt, g1, g2⟩ := id P3
          have e1 : ns.take (i + 1) = ns.take i ++ [nm] := by rw [List.take_add_one, hnm]; rfl
          refine ⟨_, rfl, _, rfl, p, dx, _, nm, rfl, rfl, g1, p, ns.take i, nm, rfl, P3, by rw [← e1]; exact hn.take _, fun p2 H5 s5 P5 => ⟨p2, _, rfl, s3.trans s5, by rw [e1]; exact P5⟩⟩
        · obtain ⟨p, v, rfl, s3, P3⟩ := e
          rw [List.length_map, List.take_length] at P3
          exact ⟨_, rfl, q p H3 (b1.trans (But.same (s2.trans s3))) P3 (p1.mono (s2.trans s3) (Nat.le_refl _))⟩
end
end Pl

namespace Pl
open PySem L2 Own TL RZ LamX
/-! ### the order of the texts is the order of the names -/
theorem lt_app : ∀ (a b r s : List Nat), (∀ c ∈ a, 47 < c) → (∀ c ∈ b, 47 < c) → (r = [] ∨ ∃ r', r = 47 :: r') → (s = [] ∨ ∃ s', s = 47 :: s') → a ≠ b → (a ++ r < b ++ s ↔ a < b)
  | [], [], _, _, _, _, _, _, h => absurd rfl h
  | [], y :: b, r, s, _, hb, hr, _, _ => by
    have hy := hb y List.mem_cons_self
    constructor
    · intro _
      exact List.nil_lt_cons _ _
    · intro _
      rcases hr with rfl | ⟨r', rfl⟩
      · exact List.nil_lt_cons _ _
      · show 47 :: r' < y :: (b ++ s)
        exact List.cons_lt_cons_iff.mpr (.inl hy)
  | x :: a, [], r, s, ha, _, _, hs, _ => by
    have hx := ha x List.mem_cons_self
    constructor
    · intro h
      rcases hs with rfl | ⟨s', rfl⟩
      · exact absurd h (List.not_lt_nil _)
      · have h : x :: (a ++ r) < 47 :: s' := h
        rcases List.cons_lt_cons_iff.mp h with z | ⟨z, _⟩
        · exact absurd z (Nat.lt_asymm hx)
        · omega
    · intro h
      exact absurd h (List.not_lt_nil _)
  | x :: a, y :: b, r, s, ha, hb, hr, hs, h => by
    show x :: (a ++ r) < y :: (b ++ s) ↔ x :: a < y :: b
    rw [List.cons_lt_cons_iff, List.cons_lt_cons_iff]
    by_cases e : x = y
    · subst e
      have ih := lt_app a b r s (fun c hc => ha c (List.mem_cons_of_mem _ hc)) (fun c hc => hb c (List.mem_cons_of_mem _ hc)) hr hs fun z => h (by rw [z])
      simp [ih]
    · simp [e]
theorem sign_hi {n : Str} (h : okN n = true) : ∀ c ∈ tl n, 47 < c := fun c hc => by
  have a : ∀ c ∈ tl SIGNS, 47 < c := by decide +kernel
  exact a c (okN_signs h c hc)
/-- what stands behind the first name -/
def bhd : List Str → List Nat
  | [] => []
  | n :: ns => 47 :: joinL [47] ((n :: ns).map tl)
theorem join_bhd (n : Str) : ∀ ns : List Str, joinL [47] ((n :: ns).map tl) = tl n ++ bhd ns
  | [] => by
    show tl n = tl n ++ []
    rw [List.append_nil]
  | _ :: _ => rfl
theorem bhd_ok (ns : List Str) : bhd ns = [] ∨ ∃ r', bhd ns = 47 :: r' := by
  cases ns with
  | nil => exact .inl rfl
  | cons n ns => exact .inr ⟨_, rfl⟩
theorem lt_same : ∀ (a r s : List Nat), a ++ r < a ++ s ↔ r < s
  | [], _, _ => Iff.rfl
  | x :: a, r, s => by
    show x :: (a ++ r) < x :: (a ++ s) ↔ _
    rw [List.cons_lt_cons_iff, lt_same a r s]
    simp
theorem tl_inj {n m : Str} (h : tl n = tl m) : n = m := by
  obtain ⟨x⟩ := n
  obtain ⟨y⟩ := m
  have e : x.toList = y.toList := h
  have e2 : x = y := Array.toList_inj.mp e
  rw [e2]
theorem lexS_cons (n m : Str) (ns ms : List Str) : lexS (n :: ns) (m :: ms) = if n = m then lexS ns ms else decide (tl n < tl m) := rfl
theorem lex_join : ∀ ns ms : List Str, (∀ n ∈ ns, okN n = true) → (∀ n ∈ ms, okN n = true) → (joinL [47] (ns.map tl) < joinL [47] (ms.map tl) ↔ lexS ns ms = true)
  | [], [], _, _ => ⟨fun h => absurd h (List.not_lt_nil _), fun h => by cases h⟩
  | [], m :: ms, _, hm => by
    refine ⟨fun _ => rfl, fun _ => ?_⟩
    rw [join_bhd]
    have h := (okN_len (hm m List.mem_cons_self)).1
    cases e : tl m with
    | nil =>
      have : m.length = (tl m).length := rfl
      rw [e] at this
      rw [this] at h
      cases h
    | cons x r => exact List.nil_lt_cons _ _
  | n :: ns, [], _, _ => ⟨fun h => absurd h (List.not_lt_nil _), fun h => by cases h⟩
  | n :: ns, m :: ms, hn, hm => by
    rw [join_bhd, join_bhd, lexS_cons]
    by_cases e : n = m
    · subst e
      rw [if_pos rfl, lt_same]
      have ih := lex_join ns ms (fun x hx => hn x (List.mem_cons_of_mem _ hx)) (fun x hx => hm x (List.mem_cons_of_mem _ hx))
      rw [← ih]
      cases ns with
      | nil =>
        cases ms with
        | nil => exact Iff.rfl
        | cons y ys =>
          have z := lex_join [] (y :: ys) (fun x hx => hn x (List.mem_cons_of_mem _ hx)) (fun x hx => hm x (List.mem_cons_of_mem _ hx))
          exact ⟨fun _ => z.mpr rfl, fun _ => List.nil_lt_cons _ _⟩
      | cons x xs =>
        cases ms with
        | nil => exact ⟨fun h => absurd h (List.not_lt_nil _), fun h => absurd h (List.not_lt_nil _)⟩
        | cons y ys =>
          show 47 :: joinL [47] ((x :: xs).map tl) < 47 :: joinL [47] ((y :: ys).map tl) ↔ _
          rw [List.cons_lt_cons_iff]
          simp
    · rw [if_neg e, lt_app (tl n) (tl m) _ _ (sign_hi (hn n List.mem_cons_self)) (sign_hi (hm m List.mem_cons_self)) (bhd_ok ns) (bhd_ok ms) fun z => e (tl_inj z)]
      exact decide_eq_true_iff.symm
theorem lex_txt {ns ms : List Str} (hn : Nms ns) (hm : Nms ms) : decide ((txt ns).cps.toList < (txt ms).cps.toList) = lexS ns ms := by
  have h : tl (txt ns) < tl (txt ms) ↔ lexS ns ms = true := by
    rw [tl_txt, tl_txt, List.cons_lt_cons_iff, ← lex_join ns ms hn.2 hm.2]
    simp
  cases e : lexS ns ms with
  | true => exact decide_eq_true (h.mpr e)
  | false =>
    refine decide_eq_false fun z => ?_
    rw [h.mp z] at e
    cases e
end Pl

namespace Pl
open PySem L2 Own TL RZ LamX
/-! ### the operators, by places -/
section
variable {X : Cx} {n : Nat} {E : XK} {a : Ad}
theorem op_imp {f : Value → Value → Sem Value} {r r' : R2} (h : OpR X f r) (hi : ∀ x y H Q, r' x y H Q → r x y H Q) : OpR X f r' := fun pins s σ H x y v u Q I rx ry q => h pins s σ H x y v u Q I rx ry (hi x y H Q q)
theorem PlA.ins {C : Addr} {H : Hp} {p : Addr} {ns : List Str} (h : PlA C H p ns) : ∃ dx t, H p = some (.ins C dx (pf t)) := by
  obtain ⟨dx, t, a, _⟩ := h
  exact ⟨dx, t, a⟩
def rCmp (C : Addr) (g : Bool → Bool) : R2 := fun x y H Q => ∃ p q ns ms, x = .ref p ∧ y = .ref q ∧ PlA C H p ns ∧ PlA C H q ms ∧ Nms ns ∧ Nms ms ∧ Q (.bl (g (decide (ns = ms)))) H
theorem op_eqP (W : Wo X.prog X.w X.K X.mg X.base a) (hr : Room 1 X.A) : OpR X (compareOp .Eq) (rCmp a.C id) := by
  refine op_imp (op_eqO W.mEq.at_ W.mEq.fn W.cEq hr pass0) fun x y H Q h => ?_
  obtain ⟨p, q, ns, ms, rfl, rfl, P1, P2, N1, N2, k⟩ := h
  obtain ⟨dx, t, h1⟩ := P1.ins
  obtain ⟨dy, u, h2⟩ := P2.ins
  exact ⟨p, q, dx, _, dy, _, rfl, rfl, h1, h2, p, q, ns, ms, rfl, P1, P2, N1, N2, k⟩
theorem op_neP (W : Wo X.prog X.w X.K X.mg X.base a) (hr : Room 2 X.A) : OpR X (compareOp .NotEq) (rCmp a.C not) := by
  refine op_imp (op_neO W.ne W.sub W.mEq.at_ W.mEq.fn W.cEq hr pass0) fun x y H Q h => ?_
  obtain ⟨p, q, ns, ms, rfl, rfl, P1, P2, N1, N2, k⟩ := h
  obtain ⟨dx, t, h1⟩ := P1.ins
  obtain ⟨dy, u, h2⟩ := P2.ins
  exact ⟨p, q, dx, _, dy, _, rfl, rfl, h1, h2, p, q, ns, ms, rfl, P1, P2, N1, N2, _, rfl, k⟩
end
/-! ### four truths told -/
def tfT (b : Bool) : Str := if b then "True" else "False"
theorem four_ru {X : Cx} {k : Nat} {H : Hp} (a b c d : Bool) : RUs X [] k H [V.bl a, V.bl b, V.bl c, V.bl d] [tfT a, tfT b, tfT c, tfT d] := .cons (RU.bl a) (.cons (RU.bl b) (.cons (RU.bl c) (.cons (RU.bl d) .nil)))
theorem four_len (a b c d : Bool) : (listText [tfT a, tfT b, tfT c, tfT d]).length ≤ sizeLine := by
  have h : (listText [tfT a, tfT b, tfT c, tfT d]).length ≤ 100 := by
    cases a <;> cases b <;> cases c <;> cases d <;> decide +kernel
  exact Nat.le_trans h (by decide)
theorem two_sh (a b : Bool) : SeqAt.shaped (.list [.bool a, .bool b]) = true := by cases a <;> cases b <;> decide +kernel
theorem two_eq (a b : Bool) : PyData.eqv (.list [.bool a, .bool b]) (.list [.bool a, .bool b]) = true := by cases a <;> cases b <;> decide +kernel
/-! ### a pair of places -/
abbrev sPair : Stmt := top 19
def spPair : Sp := fun vs H Q _ => ∃ (l c t u : Addr) (ns ms : List Str) (k : Nat), vs = [.ref l, .ref t, .ref u] ∧ PenAt H l c k ∧ k ≤ 80000 ∧ H t = some (.tup (ns.map V.str)) ∧ H u = some (.tup (ms.map V.str)) ∧ Nms ns ∧ Nms ms ∧
  ∀ H', But l H H' → PenAt H' l c (k + 2) → Q (.bl true) H'
section
variable {P : Program} {w : World} {K : PySem.W.Frag} {mg : Str → Option Value} {base : Heap} {a : Ad} {f : Addr} {fd : FuncData}
theorem scPair : FnScope ["_law_pen_here", "_law_one", "_law_other", "_law_left", "_law_right", "_law_found", "_law_due"] ["_law_pen_here", "_law_one", "_law_other"] (defScope sPair) := ⟨rfl, rfl, rfl, by decide +kernel, rfl, by decide +kernel, by decide +kernel⟩
theorem gPair {gM : Addr} {fdM : FuncData} (W : Wo P w K mg base a) (F : Fun K "_law_pair_right" "_law_pair_right" sPair f fd) (bF : L2.Binds K fd ["_law_pen_here", "_law_one", "_law_other"] [])
    (GM : FnOk P w K mg base CX0 6 gM fdM ["_law_pen_here", "_law_some"] (spMade a.C)) (mM : mg "_law_made" = some (.ref gM)) (kM : PySem.W.keepIn K (.ref gM) = true) (bM : L2.Binds K fdM ["_law_pen_here", "_law_some"] []) :
    FnG P w K mg base CX0 8 f spPair := by
  refine fnG_of F scPair bF (fun vs H Q E h => ?_) (fun cdv A outer s H vs Q E hr hg h => ?_)
  · obtain ⟨l, c, t, u, ns, ms, k, rfl, _⟩ := h
    rfl
  · obtain ⟨l, c, t, u, ns, ms, k, rfl, PN, hk, ht, hu, hn, hm, q⟩ := h
    have hr1 : Room 1 _ := hr.mono (by decide)
    have hr2 : Room 2 _ := hr.mono (by decide)
    have hr3 : Room 3 _ := hr.mono (by decide)
    have hr5 : Room 5 _ := hr.mono (by decide)
    have hr6 : Room 6 _ := hr.mono (by decide)
    refine ⟨_, PSs.nox (pss_cons (ps_par (i := 3) (j := 4) rfl scPair.nd rfl rfl (by decide) rfl rfl (pa_cons (pe_call GM hr6 (by rfl) mM kM bM .nil pass0 (pa_cons (pv 0) (pa_cons (pv 1) pa_nil))) (pa_cons (pe_call GM hr6 (by rfl) mM kM bM .nil pass0 (pa_cons (pv 0) (pa_cons (pv 2) pa_nil))) pa_nil)) (by rfl))
      (pss_cons (ps_set (i := 5) scPair.nd rfl (Or.inl rfl) (pe_lst (pa_cons (pe_cmpR (op_eqP W hr1) (pv 3) (pv 4) (nomark _)) (pa_cons (pe_cmpR (op_neP W hr2) (pv 3) (pv 4) (nomark _))
        (pa_cons (pe_meth (pv 3) W.U.cl W.mAhead W.cAhead hr3 W.bAhead .nil pass0 (pa_cons (pv 4) pa_nil)) (pa_cons (pe_meth (pv 4) W.U.cl W.mAhead W.cAhead hr3 W.bAhead .nil pass0 (pa_cons (pv 3) pa_nil)) pa_nil))))))
      (pss_cons (ps_set (i := 6) scPair.nd rfl (Or.inl rfl) (pe_lst (pa_cons (pe_cmpR (op_eqD hr.units) (pv 1) (pv 2) (nomark _)) (pa_cons (pe_cmpR (op_neD hr.units) (pv 1) (pv 2) (nomark _))
        (pa_cons (pe_cmpR (op_ltTS hr.units0) (pv 1) (pv 2) (nomark _)) (pa_cons (pe_cmpR (op_ltTS hr.units0) (pv 2) (pv 1) (nomark _)) pa_nil))))))
      (pss_cons (ps_if (pt_cmpR op_ne (pe_callB (call_repr (k := 1) hg hr3) (by rfl) W.repr (by decide +kernel) (pa_cons (pv 5) pa_nil)) (pe_callB (call_repr (k := 1) hg hr3) (by rfl) W.repr (by decide +kernel) (pa_cons (pv 6) pa_nil)) (nomark _)) (pss_one (ps_ret pe_bl)) pss_nil)
      (pss_one (ps_ret (pe_cmpR (op_eqD hr.units) (pe_lst (pa_cons (pe_cmpR op_lt_str (pe_prop (pv 3) W.U.cl W.pText W.cText hr2 W.bText .nil pass0 rfl) (pe_prop (pv 4) W.U.cl W.pText W.cText hr2 W.bText .nil pass0 rfl) (nomark _))
        (pa_cons (pe_cmpR op_lt_str (pe_callTy (call_strO W.mStr.at_ W.mStr.fn W.cStr hr5 pass0) (by rfl) W.T.b.str (by decide +kernel) (pa_cons (pv 4) pa_nil)) (pe_callTy (call_strO W.mStr.at_ W.mStr.fn W.cStr hr5 pass0) (by rfl) W.T.b.str (by decide +kernel) (pa_cons (pv 3) pa_nil)) (nomark _)) pa_nil)))
        (pe_slice sl_list (pv 6) (po_some pe_int) po_none) (nomark _)))))))), ?_⟩
    obtain ⟨lx, hlx⟩ := PN.lst
    have ntl : t ≠ l := ne_of ht hlx (by intro z; cases z)
    have nul : u ≠ l := ne_of hu hlx (by intro z; cases z)
    refine ⟨_, rfl, _, rfl, l, c, t, ns, k, rfl, PN, by omega, ht, hn, fun p H1 b1 P1 p1 => ?_⟩
    obtain ⟨lx1, hlx1⟩ := p1.lst
    refine ⟨_, rfl, _, rfl, l, c, u, ms, k + 1, rfl, p1, by omega, b1 _ _ hu nul, hm, fun p' H2 b2 P2 p2 => ⟨_, _, rfl, ?_⟩⟩
    have P1 := P1.but b2 hlx1
    have b12 := b1.trans b2
    have ht2 := b12 _ _ ht ntl
    have hu2 := b12 _ _ hu nul
    obtain ⟨dx, tt, g1, g2⟩ := id P1
    obtain ⟨dy, uu, g3, g4⟩ := id P2
    -- the four found
    refine ⟨_, rfl, _, rfl, p, p', ns, ms, rfl, rfl, P1, P2, hn, hm, _, rfl, _, rfl, p, p', ns, ms, rfl, rfl, P1, P2, hn, hm, ?_⟩
    refine ⟨_, rfl, p, dx, _, rfl, g1, pf_no _ (by decide +kernel), _, rfl, p, p', ns, ms, rfl, P1, P2, ?_⟩
    refine ⟨_, rfl, p', dy, _, rfl, g3, pf_no _ (by decide +kernel), _, rfl, p', p, ms, ns, rfl, P2, P1, ?_⟩
    refine ⟨by show 4 ≤ sizeLine; decide, fun L hL => ?_⟩
    have sA : Same H2 (upd H2 L (.lst [V.bl (decide (ns = ms)), V.bl (!decide (ns = ms)), V.bl (lexS ns ms), V.bl (lexS ms ns)])) := fun b o hb => by
      rw [upd_ne (ne_of_none hb hL)]
      exact hb
    have aA : upd H2 L (.lst [V.bl (decide (ns = ms)), V.bl (!decide (ns = ms)), V.bl (lexS ns ms), V.bl (lexS ms ns)]) L = some (.lst [V.bl (decide (ns = ms)), V.bl (!decide (ns = ms)), V.bl (lexS ns ms), V.bl (lexS ms ns)]) := upd_same
    generalize hA : upd H2 L (.lst [V.bl (decide (ns = ms)), V.bl (!decide (ns = ms)), V.bl (lexS ns ms), V.bl (lexS ms ns)]) = HA at sA aA
    have eA : upd H2 L (.lst [V.bl (id (decide (ns = ms))), V.bl (not (decide (ns = ms))), V.bl (lexS ns ms), V.bl (lexS ms ns)]) = HA := hA
    rw [eA]
    have ht3 := sA _ _ ht2
    have hu3 := sA _ _ hu2
    have shn := shaped_strs ns fun n h => ok_str (hn.2 n h)
    have shm := shaped_strs ms fun n h => ok_str (hm.2 n h)
    refine ⟨_, rfl, _, rfl, _, _, .tup (SqT.of ht3) (dp_strs _), .tup (SqT.of hu3) (dp_strs _), shn, shm, ?_⟩
    rw [eqv_strs]
    refine ⟨_, rfl, _, rfl, _, _, .tup (SqT.of ht3) (dp_strs _), .tup (SqT.of hu3) (dp_strs _), shn, shm, ?_⟩
    rw [eqv_strs]
    refine ⟨_, rfl, _, rfl, t, u, ns, ms, rfl, rfl, SqT.of ht3, SqT.of hu3, _, rfl, _, rfl, u, t, ms, ns, rfl, rfl, SqT.of hu3, SqT.of ht3, by show 4 ≤ sizeLine; decide, fun M hM => ?_⟩
    have sB : Same HA (upd HA M (.lst [V.bl (decide (ns = ms)), V.bl (!decide (ns = ms)), V.bl (lexS ns ms), V.bl (lexS ms ns)])) := fun b o hb => by
      rw [upd_ne (ne_of_none hb hM)]
      exact hb
    have aB : upd HA M (.lst [V.bl (decide (ns = ms)), V.bl (!decide (ns = ms)), V.bl (lexS ns ms), V.bl (lexS ms ns)]) M = some (.lst [V.bl (decide (ns = ms)), V.bl (!decide (ns = ms)), V.bl (lexS ns ms), V.bl (lexS ms ns)]) := upd_same
    generalize hB : upd HA M (.lst [V.bl (decide (ns = ms)), V.bl (!decide (ns = ms)), V.bl (lexS ns ms), V.bl (lexS ms ns)]) = HB at sB aB ⊢
    have aA2 := sB _ _ aA
    -- the two reprs
    refine ⟨_, rfl, L, _, _, [], _, rfl, by simp, four_ru _ _ _ _, .inr ⟨aA2, by simp, rfl⟩, four_len _ _ _ _, fun HC sC => ?_⟩
    refine ⟨_, rfl, M, _, _, [], _, rfl, by simp, four_ru _ _ _ _, .inr ⟨sC _ _ aB, by simp, rfl⟩, four_len _ _ _ _, fun HE sE => ⟨rfl, _, rfl, iteNS rfl ?_⟩⟩
    have s6 := ((sA.trans sB).trans sC).trans sE
    have P1' := P1.mono s6
    have P2' := P2.mono s6
    obtain ⟨e1, e2, g5, g6⟩ := id P1'
    obtain ⟨e3, e4, g7, g8⟩ := id P2'
    refine ⟨_, rfl, p, e1, _, rfl, g5, p, ns, rfl, P1', hn, _, rfl, p', e3, _, rfl, g7, p', ms, rfl, P2', hm, _, _, rfl, rfl, ?_⟩
    refine ⟨_, rfl, p', e3, _, rfl, g7, p', ms, rfl, P2', hm, _, rfl, _, rfl, p, e1, _, rfl, g5, p, ns, rfl, P1', hn, _, rfl, _, _, rfl, rfl, by show 2 ≤ sizeLine; decide, fun N hN => ?_⟩
    rw [lex_txt hn hm, lex_txt hm hn]
    have aB2 := sE _ _ (sC _ _ aB)
    refine ⟨_, rfl, _, rfl, M, _, rfl, SqL.of (show upd HE N _ M = _ by rw [upd_ne (ne_of_none aB2 hN)]; exact aB2), fun O hO => ?_⟩
    have nON : N ≠ O := fun z => by
      rw [← z, upd_same] at hO
      cases hO
    refine ⟨.list [.bool (lexS ns ms), .bool (lexS ms ns)], .list [.bool (lexS ns ms), .bool (lexS ms ns)], .lst (SqL.of (by rw [upd_ne nON, upd_same])) (.cons (.bl _) (.cons (.bl _) .nil)), .lst (SqL.of (upd_same.trans rfl)) (.cons (.bl _) (.cons (.bl _) .nil)), two_sh _ _, two_sh _ _, ?_⟩
    rw [two_eq]
    refine q _ (fun b o hb hnb => ?_) ?_
    · have z := s6 _ _ (b12 _ _ hb hnb)
      have z1 : upd HE N (.lst [V.bl (lexS ns ms), V.bl (lexS ms ns)]) b = some o := by
        rw [upd_ne (ne_of_none z hN)]
        exact z
      rw [upd_ne (ne_of_none z1 hO)]
      exact z1
    · refine p2.mono (fun b o hb => ?_) (Nat.le_refl _)
      have z := s6 _ _ hb
      have z1 : upd HE N (.lst [V.bl (lexS ns ms), V.bl (lexS ms ns)]) b = some o := by
        rw [upd_ne (ne_of_none z hN)]
        exact z
      rw [upd_ne (ne_of_none z1 hO)]
      exact z1
end
end Pl

namespace Pl
open PySem L2 Own TL RZ LamX
/-! ### slices of tuples -/
theorem sl_take {K : PySem.W.Frag} {H : Hp} {a : Addr} {xs : List V} {n : Nat} {Q : VK} (ha : H a = some (.tup xs)) (q : ∀ p H', Same H H' → H' p = some (.tup (xs.take n)) → Q (.ref p) H') : rSlA K (.ref a) none (some (n : Int)) H Q := by
  refine ⟨a, xs, rfl, SqT.of ha, fun h => q a H (Same.refl _) ?_, fun _ p hp => q p _ (fun b o hb => by rw [upd_ne (ne_of_none hb hp)]; exact hb) ?_⟩
  · rw [HT.sIx_nat] at h
    rw [List.take_of_length_le (by omega)]
    exact ha
  · rw [upd_same]
    unfold cutV
    rw [HT.sIx_none, HT.sIx_nat, List.drop_zero, Nat.sub_zero]
    congr 2
    by_cases hl : n ≤ xs.length
    · rw [Nat.min_eq_left hl]
    · rw [Nat.min_eq_right (by omega), List.take_of_length_le (Nat.le_refl _), List.take_of_length_le (by omega)]
theorem sl_init {K : PySem.W.Frag} {H : Hp} {a : Addr} {xs : List V} {Q : VK} (ha : H a = some (.tup xs)) (hx : xs ≠ []) (q : ∀ p H', Same H H' → H' p = some (.tup xs.dropLast) → Q (.ref p) H') : rSlA K (.ref a) none (some (-1)) H Q := by
  have hl : 0 < xs.length := List.length_pos_iff.mpr hx
  have e : HT.sIx xs.length xs.length (some (-1)) = xs.length - 1 := by
    unfold HT.sIx
    simp
    try omega
  refine ⟨a, xs, rfl, SqT.of ha, fun h => ?_, fun _ p hp => q p _ (fun b o hb => by rw [upd_ne (ne_of_none hb hp)]; exact hb) ?_⟩
  · rw [e] at h
    omega
  · rw [upd_same]
    unfold cutV
    rw [HT.sIx_none, e, List.drop_zero, Nat.sub_zero, List.dropLast_eq_take]
/-! ### what stands below, what stands beside -/
theorem lexS_self : ∀ ns : List Str, lexS ns ns = false
  | [] => rfl
  | n :: ns => by rw [lexS_cons, if_pos rfl, lexS_self ns]
theorem lexS_below (m : Str) : ∀ ns : List Str, lexS ns (ns ++ [m]) = true
  | [] => rfl
  | n :: ns => by
    rw [List.cons_append, lexS_cons, if_pos rfl, lexS_below m ns]
theorem lexS_above (m : Str) : ∀ ns : List Str, lexS (ns ++ [m]) ns = false
  | [] => rfl
  | n :: ns => by
    rw [List.cons_append, lexS_cons, if_pos rfl, lexS_above m ns]
theorem lexS_last {n m : Str} (h : n ≠ m) : ∀ ps : List Str, lexS (ps ++ [n]) (ps ++ [m]) = decide (tl n < tl m)
  | [] => by
    show lexS (n :: []) (m :: []) = _
    rw [lexS_cons, if_neg h]
  | p :: ps => by rw [List.cons_append, List.cons_append, lexS_cons, if_pos rfl, lexS_last h ps]
def zed (n : Str) : Str := cutS n none (some 7) ++ ("z" : Str)
def zOk (n : Str) : Bool := okN (zed n) && decide (tl n < tl (zed n))
theorem zed_ok {n : Str} (h : zOk n = true) : okN (zed n) = true := (Bool.and_eq_true_iff.mp h).1
theorem zed_lt {n : Str} (h : zOk n = true) : tl n < tl (zed n) := of_decide_eq_true (Bool.and_eq_true_iff.mp h).2
theorem zed_ne {n : Str} (h : zOk n = true) : n ≠ zed n := fun e => by
  have z := zed_lt h
  rw [← e] at z
  exact absurd z (List.lt_irrefl _)
theorem pools_ok : ∀ n ∈ (["a", "b", "ab", "a0", "0", "9", "z", "abcdefgh", "abcdefg", "b1"] : List Str), okN n = true ∧ zOk n = true := by decide +kernel
abbrev sOrd : Stmt := top 22
def spOrd : Sp := fun vs H Q _ => ∃ (l c m : Addr) (pool : List Str) (k : Nat), vs = [.ref l, .ref m] ∧ PenAt H l c k ∧ k ≤ 80000 ∧ Pool H l m pool ∧ (∀ n ∈ pool, zOk n = true) ∧
  ∀ H', But l H H' → PenAt H' l c (k + 20) → Q (.bl true) H'
section
variable {P : Program} {w : World} {K : PySem.W.Frag} {mg : Str → Option Value} {base : Heap} {a : Ad} {f : Addr} {fd : FuncData}
theorem scOrd : FnScope ["_law_pen_here", "_law_pool", "_law_some", "_law_here", "_law_below", "_law_beside"] ["_law_pen_here", "_law_pool"] (defScope sOrd) := ⟨rfl, rfl, rfl, by decide +kernel, rfl, by decide +kernel, by decide +kernel⟩
theorem ok_ord {gM gN : Addr} {fdM fdN : FuncData} (W : Wo P w K mg base a) (F : Fun K "_law_order_right" "_law_order_right" sOrd f fd)
    (GM : FnOk P w K mg base CX0 6 gM fdM ["_law_pen_here", "_law_some"] (spMade a.C)) (mM : mg "_law_made" = some (.ref gM)) (kM : PySem.W.keepIn K (.ref gM) = true) (bM : Binds K fdM ["_law_pen_here", "_law_some"] [])
    (GN : FnOk P w K mg base CX0 4 gN fdN ["_law_pen_here", "_law_pool"] spNms) (mN : mg "_law_names" = some (.ref gN)) (kN : PySem.W.keepIn K (.ref gN) = true) (bN : Binds K fdN ["_law_pen_here", "_law_pool"] []) :
    FnOk P w K mg base CX0 8 f fd ["_law_pen_here", "_law_pool"] spOrd := by
  refine F.ok scOrd (fun vs H Q E h => ?_) (fun cdv A outer s H vs Q E hr h => ?_)
  · obtain ⟨l, c, m, pool, k, rfl, _⟩ := h
    rfl
  · obtain ⟨l, c, m, pool, k, rfl, PN, hk, PO, hz, q⟩ := h
    have hr2 : Room 2 _ := hr.mono (by decide)
    have hr3 : Room 3 _ := hr.mono (by decide)
    have hr4 : Room 4 _ := hr.mono (by decide)
    have hr6 : Room 6 _ := hr.mono (by decide)
    refine ⟨_, pss_cons (ps_set (i := 2) scOrd.nd rfl (Or.inl rfl) (pe_slice sl_tupA (pe_call GN hr4 (by rfl) mN kN bN .nil pass0 (pa_cons (pv 0) (pa_cons (pv 1) pa_nil))) po_none (po_some pe_int)))
      (pss_cons (ps_set (i := 3) scOrd.nd rfl (Or.inl rfl) (pe_call GM hr6 (by rfl) mM kM bM .nil pass0 (pa_cons (pv 0) (pa_cons (pv 2) pa_nil))))
      (pss_cons (ps_set (i := 4) scOrd.nd rfl (Or.inl rfl) (pe_op (op_addS W.sf W.mAdd.at_ W.mAdd.fn W.cAdd hr4 pass0) (pv 3) (pe_call W.cPick hr2 (by rfl) W.mPick W.kPick W.bPick .nil pass0 (pa_cons (pv 0) (pa_cons (pv 1) pa_nil)))))
      (pss_cons (ps_if (PW.pt (pw_or (pt_not (pt_val (pe_methK1 (pv 3) W.U.cl W.mAhead W.cAhead hr3 W.kAhead pass0 (pv 4)))) (pw_or (pt_val (pe_methK1 (pv 4) W.U.cl W.mAhead W.cAhead hr3 W.kAhead pass0 (pv 3)))
          (pw_or1 (pt_val (pe_meth (pv 3) W.U.cl W.mAhead W.cAhead hr3 W.bAhead .nil pass0 (pa_cons (pv 3) pa_nil))))))) (pss_one (ps_ret pe_bl)) pss_nil)
      (pss_cons (ps_set (i := 5) scOrd.nd rfl (Or.inl rfl) (pe_ifExp (pt_cmpR (op_neD hr.units) (pv 2) (pe_tup pa_nil) (nomark _))
          (pe_call GM hr6 (by rfl) mM kM bM .nil pass0 (pa_cons (pv 0) (pa_cons (pe_op op_catA (pe_slice sl_tupA (pv 2) po_none (po_some (pe_un un_neg pe_int)))
            (pe_tup (pa_cons (pe_op op_add_str (pe_slice sl_str (pe_ix ix_tup (pv 2) (pe_un un_neg pe_int) (fun _ _ => rfl)) po_none (po_some pe_int)) pe_str) pa_nil))) pa_nil))) (pv 4)))
      (pss_cons (ps_if (pt_not (pt_val (pe_meth (pv 3) W.U.cl W.mAhead W.cAhead hr3 W.bAhead .nil pass0 (pa_cons (pv 5) pa_nil)))) (pss_one (ps_ret pe_bl)) pss_nil)
      (pss_one (ps_ret (pe_or (pe_cmpR (op_eqD hr.units) (pv 2) (pe_tup pa_nil) (nomark _)) (pe_one (pe_cmpR op_eq (pe_meth (pv 4) W.U.cl W.mAhead W.cAhead hr3 W.bAhead .nil pass0 (pa_cons (pv 5) pa_nil))
        (pe_cmpR (op_ltTS hr.units0) (pe_prop (pv 4) W.U.cl W.pNames W.cNames hr2 W.bNames .nil pass0 rfl) (pe_prop (pv 5) W.U.cl W.pNames W.cNames hr2 W.bNames .nil pass0 rfl) (nomark _)) (nomark _))))))))))), ?_⟩
    obtain ⟨lx, hlx⟩ := PN.lst
    refine ⟨_, rfl, _, rfl, l, c, m, pool, k, rfl, PN, by omega, PO, fun t0 ns0 H1 b1 ht0 hn0 hin0 p1 => ⟨_, rfl, sl_take (n := 6) ht0 fun t H2 s2 ht2 => ?_⟩⟩
    rw [← List.map_take] at ht2
    have hn := hn0.take 6
    have hin : ∀ n ∈ ns0.take 6, n ∈ pool := fun n hm => hin0 n (List.mem_of_mem_take hm)
    have hl6 : (ns0.take 6).length ≤ 6 := by rw [List.length_take]; omega
    generalize ns0.take 6 = ns at ht2 hn hin hl6
    have b2 := b1.trans (But.same s2)
    have p2 := p1.mono s2 (Nat.le_refl _)
    obtain ⟨lx2, hlx2⟩ := p2.lst
    refine ⟨_, rfl, _, rfl, l, c, t, ns, k + 9, rfl, p2, by omega, ht2, hn, fun p H3 b3 P3 p3 => ?_⟩
    have b13 := b2.trans b3
    have PO3 := PO.but b13
    have ht3 := b3 _ _ ht2 (ne_of ht2 hlx2 (by intro z; cases z))
    obtain ⟨lx3, hlx3⟩ := p3.lst
    refine ⟨_, rfl, _, rfl, _, rfl, l, c, m, _, k + 10, rfl, p3, by omega, PO3.at_, PO3.ne, by rw [List.length_map]; exact List.length_pos_iff.mpr PO.some_, by rw [List.length_map]; exact Nat.lt_trans PO.few (by decide), fun j x H4 hj b4 p4 => ?_⟩
    rw [List.getElem?_map] at hj
    obtain ⟨nm, hnm, rfl⟩ := Option.map_eq_some_iff.mp hj
    have hmem := List.mem_of_getElem? hnm
    have P4 := P3.but b4 hlx3
    have ht4 := b4 _ _ ht3 (ne_of ht3 hlx3 (by intro z; cases z))
    have b14 := b13.trans b4
    obtain ⟨dx, tt, g1, g2⟩ := id P4
    have hnb : Nms (ns ++ [nm]) := ⟨by rw [List.length_append, List.length_singleton]; omega, fun z hz => by
      rcases List.mem_append.mp hz with h | h
      · exact hn.2 z h
      · rw [List.mem_singleton.mp h]
        exact PO.ok _ hmem⟩
    refine ⟨p, dx, _, nm, rfl, rfl, g1, p, ns, nm, rfl, P4, hnb, fun p' H5 s5 P5 => ?_⟩
    have P45 := P4.mono s5
    have ht5 := s5 _ _ ht4
    have b15 := b14.trans (But.same s5)
    have p5 := p4.mono s5 (Nat.le_refl _)
    obtain ⟨e1, e2, g3, g4⟩ := id P45
    obtain ⟨e3, e4, g5, g6⟩ := id P5
    refine ⟨_, rfl, p, e1, _, rfl, g3, pf_no _ (by decide +kernel), _, rfl, p, p', ns, _, rfl, P45, P5, _, rfl, ?_⟩
    rw [lexS_below]
    refine iteF ⟨_, rfl, p', e3, _, rfl, g5, pf_no _ (by decide +kernel), _, rfl, p', p, _, ns, rfl, P5, P45, _, rfl, ?_⟩
    rw [lexS_above]
    refine iteF ⟨_, rfl, p, e1, _, rfl, g3, pf_no _ (by decide +kernel), _, rfl, p, p, ns, ns, rfl, P45, P45, _, rfl, ?_⟩
    rw [lexS_self]
    refine iteF ?_
    have shn := shaped_strs ns fun n h => ok_str (hn.2 n h)
    obtain ⟨lx5, hlx5⟩ := p5.lst
    refine ⟨_, rfl, by show 0 ≤ sizeLine; decide, fun T0 hT0 => ?_⟩
    have s6 : Same H5 (upd H5 T0 (.tup [])) := fun b o hb => by
      rw [upd_ne (ne_of_none hb hT0)]
      exact hb
    have aT : upd H5 T0 (.tup []) T0 = some (.tup []) := upd_same
    generalize upd H5 T0 (.tup []) = H6 at s6 aT
    have ht6 := s6 _ _ ht5
    refine ⟨.tuple (ns.map PyData.str), .tuple [], .tup (SqT.of ht6) (dp_strs ns), .tup (SqT.of aT) .nil, shn, by decide +kernel, ?_⟩
    rw [show PyData.eqv (.tuple (ns.map PyData.str)) (.tuple []) = decide (ns = []) from eqv_strs ns []]
    have P6 := P45.mono s6
    have P6' := P5.mono s6
    have p6 := p5.mono s6 (Nat.le_refl _)
    have b16 := b15.trans (But.same s6)
    refine ⟨_, rfl, ?_⟩
    by_cases hne : ns = []
    · rw [decide_eq_true hne]
      refine iteF ⟨_, rfl, ?_⟩
      have P9 := P6'
      have hlt : lexS ns (ns ++ [nm]) = true := lexS_below nm ns
      obtain ⟨e5, e6, g7, g8⟩ := id P9
      have P19 : PlA a.C H6 p ns := P6
      have P29 : PlA a.C H6 p' (ns ++ [nm]) := P6'
      have b19 : But l H H6 := b16
      have ht9 := ht6
      refine ⟨_, rfl, p, P19.choose, _, rfl, P19.choose_spec.choose_spec.1, pf_no _ (by decide +kernel), _, rfl, p, p', ns, (ns ++ [nm]), rfl, P19, P9, _, rfl, ?_⟩
      rw [hlt]
      refine iteF ⟨_, rfl, by show 0 ≤ sizeLine; decide, fun T1 hT1 => ?_⟩
      have sT : Same H6 (upd H6 T1 (.tup [])) := fun b o hb => by
        rw [upd_ne (ne_of_none hb hT1)]
        exact hb
      have aT1 : upd H6 T1 (.tup []) T1 = some (.tup []) := upd_same
      generalize upd H6 T1 (.tup []) = HT at sT aT1
      have htT := sT _ _ ht9
      have bT : But l H HT := b19.trans (But.same sT)
      have pT : PenAt HT l c (k + 20) := p6.mono sT (by omega)
      refine ⟨.tuple (ns.map PyData.str), .tuple [], .tup (SqT.of htT) (dp_strs ns), .tup (SqT.of aT1) .nil, shn, by decide +kernel, ?_⟩
      rw [show PyData.eqv (.tuple (ns.map PyData.str)) (.tuple []) = decide (ns = []) from eqv_strs ns [], decide_eq_true hne]
      exact ⟨_, rfl, iteT (q HT bT pT)⟩
    · rw [decide_eq_false hne]
      refine iteT ?_
      obtain ⟨lz, hlz⟩ : ∃ z, ns.getLast? = some z := by
        cases e : ns.getLast? with
        | none => exact absurd (List.getLast?_eq_none_iff.mp e) hne
        | some z => exact ⟨z, rfl⟩
      have hsp : ns = ns.dropLast ++ [lz] := by
        obtain ⟨ys, hys⟩ := List.getLast?_eq_some_iff.mp hlz
        rw [hys, List.dropLast_concat]
      refine ⟨_, rfl, _, rfl, _, rfl, _, rfl, sl_init ht6 (by simpa using hne) fun ti H7 s7 hti => ?_⟩
      have ht7 := s7 _ _ ht6
      have hmv : ns.map V.str = ns.dropLast.map V.str ++ [V.str lz] := by
        conv => lhs; rw [hsp]
        rw [List.map_append]
        rfl
      have hlm : lz ∈ ns := by
        rw [hsp]
        exact List.mem_append_right _ List.mem_cons_self
      have hzo := hz lz (hin lz hlm)
      refine ⟨_, rfl, _, rfl, t, _, _, .str lz, rfl, rfl, SqT.of ht7, by rw [hmv]; exact atI_last _ _, _, rfl, lz, rfl, ?_⟩
      have l1 : (cutS lz none (some 7)).length ≤ lz.length := cutS_length lz _ _
      have l2 := (okN_len (hn.2 lz hlm)).2
      have l3 : ("z" : Str).length = 1 := by decide +kernel
      refine ⟨small8 (by omega), _, _, rfl, rfl, by rw [l3]; exact small8 (by omega), by show 1 ≤ sizeLine; decide, fun tz htz => ?_⟩
      have s8 : Same H7 (upd H7 tz (.tup [V.str (zed lz)])) := fun b o hb => by
        rw [upd_ne (ne_of_none hb htz)]
        exact hb
      have az : upd H7 tz (.tup [V.str (zed lz)]) tz = some (.tup [V.str (zed lz)]) := upd_same
      show rCatA _ _ _ (upd H7 tz (.tup [V.str (zed lz)])) _
      generalize upd H7 tz (.tup [V.str (zed lz)]) = H8 at s8 az ⊢
      have hti8 := s8 _ _ hti
      have hnz : Nms (ns.dropLast ++ [zed lz]) := by
        have hl : ns.length ≠ 0 := fun e => hne (List.length_eq_zero_iff.mp e)
        refine ⟨by rw [List.length_append, List.length_dropLast, List.length_singleton]; omega, fun z hz => ?_⟩
        rcases List.mem_append.mp hz with h | h
        · exact hn.2 z (List.dropLast_subset _ h)
        · rw [List.mem_singleton.mp h]
          exact zed_ok hzo
      have fin : ∀ tt H', Same H8 H' → H' tt = some (.tup ((ns.dropLast ++ [zed lz]).map V.str)) → True := fun _ _ _ _ => trivial
      refine ⟨ti, tz, _, _, rfl, rfl, SqT.of hti8, SqT.of az, ?_, fun hx => ?_, fun hx hy => absurd hy (by simp), fun hx hy tt htt => ?_⟩
      · rw [List.length_dropLast, List.length_map]
        exact small8 (by simp; omega)
      · have hd : ns.dropLast = [] := by
          have z := hx
          rw [← List.map_dropLast] at z
          exact List.map_eq_nil_iff.mp z
        have s58 : Same H5 H8 := ((s6.trans s7).trans s8)
        refine ⟨l, c, tz, ns.dropLast ++ [zed lz], k + 11, rfl, p5.mono s58 (by omega), by omega, by rw [hd]; exact az, hnz, fun q' H9 b9 P9 p9 => ?_⟩
        have hlt : lexS ns (ns.dropLast ++ [zed lz]) = true := by
          conv => lhs; arg 1; rw [hsp]
          rw [lexS_last (zed_ne hzo)]
          exact decide_eq_true (zed_lt hzo)
        obtain ⟨lx8, hlx8⟩ := (p5.mono s58 (Nat.le_refl _)).lst
        obtain ⟨e5, e6, g7, g8⟩ := id P9
        have P19 : PlA a.C H9 p ns := (P45.mono s58).but b9 hlx8
        have P29 : PlA a.C H9 p' (ns ++ [nm]) := (P5.mono s58).but b9 hlx8
        have b19 : But l H H9 := (b15.trans (But.same s58)).trans b9
        have ht9 := b9 _ _ (s58 _ _ ht5) (ne_of (s58 _ _ ht5) hlx8 (by intro z; cases z))
        refine ⟨_, rfl, p, P19.choose, _, rfl, P19.choose_spec.choose_spec.1, pf_no _ (by decide +kernel), _, rfl, p, q', ns, (ns.dropLast ++ [zed lz]), rfl, P19, P9, _, rfl, ?_⟩
        rw [hlt]
        refine iteF ⟨_, rfl, by show 0 ≤ sizeLine; decide, fun T1 hT1 => ?_⟩
        have sT : Same H9 (upd H9 T1 (.tup [])) := fun b o hb => by
          rw [upd_ne (ne_of_none hb hT1)]
          exact hb
        have aT1 : upd H9 T1 (.tup []) T1 = some (.tup []) := upd_same
        generalize upd H9 T1 (.tup []) = HT at sT aT1
        have htT := sT _ _ ht9
        have PT1 := P29.mono sT
        have PT2 := P9.mono sT
        have bT : But l H HT := b19.trans (But.same sT)
        have pT : PenAt HT l c (k + 20) := p9.mono sT (by omega)
        obtain ⟨f1, f2, f3, f4⟩ := id PT1
        obtain ⟨f5, f6, f7, f8⟩ := id PT2
        refine ⟨.tuple (ns.map PyData.str), .tuple [], .tup (SqT.of htT) (dp_strs ns), .tup (SqT.of aT1) .nil, shn, by decide +kernel, ?_⟩
        rw [show PyData.eqv (.tuple (ns.map PyData.str)) (.tuple []) = decide (ns = []) from eqv_strs ns []]
        refine ⟨_, rfl, ite2 (fun h0 => q HT bT pT) (fun h0 => ?_)⟩
        refine ⟨_, rfl, p', f1, _, rfl, f3, pf_no _ (by decide +kernel), _, rfl, p', q', _, (ns.dropLast ++ [zed lz]), rfl, PT1, PT2, _, rfl, p', f1, _, rfl, f3, p', f1, f2, rfl, f3, _, rfl, q', f5, _, rfl, f7, q', f5, f6, rfl, f7, _, _, _, _, rfl, rfl, SqT.of f4, SqT.of f8, rfl, ?_⟩
        rw [decide_eq_true rfl]
        exact q HT bT pT
      · have sC : Same H8 (upd H8 tt (.tup ((ns.map V.str).dropLast ++ [V.str (zed lz)]))) := fun b o hb => by
          rw [upd_ne (ne_of_none hb htt)]
          exact hb
        have s58 : Same H5 (upd H8 tt (.tup ((ns.map V.str).dropLast ++ [V.str (zed lz)]))) := (((s6.trans s7).trans s8).trans sC)
        refine ⟨l, c, tt, ns.dropLast ++ [zed lz], k + 11, rfl, p5.mono s58 (by omega), by omega, by rw [upd_same, List.map_append, List.map_dropLast]; rfl, hnz, fun q' H9 b9 P9 p9 => ?_⟩
        have hlt : lexS ns (ns.dropLast ++ [zed lz]) = true := by
          conv => lhs; arg 1; rw [hsp]
          rw [lexS_last (zed_ne hzo)]
          exact decide_eq_true (zed_lt hzo)
        obtain ⟨lx8, hlx8⟩ := (p5.mono s58 (Nat.le_refl _)).lst
        obtain ⟨e5, e6, g7, g8⟩ := id P9
        have P19 : PlA a.C H9 p ns := (P45.mono s58).but b9 hlx8
        have P29 : PlA a.C H9 p' (ns ++ [nm]) := (P5.mono s58).but b9 hlx8
        have b19 : But l H H9 := (b15.trans (But.same s58)).trans b9
        have ht9 := b9 _ _ (s58 _ _ ht5) (ne_of (s58 _ _ ht5) hlx8 (by intro z; cases z))
        refine ⟨_, rfl, p, P19.choose, _, rfl, P19.choose_spec.choose_spec.1, pf_no _ (by decide +kernel), _, rfl, p, q', ns, (ns.dropLast ++ [zed lz]), rfl, P19, P9, _, rfl, ?_⟩
        rw [hlt]
        refine iteF ⟨_, rfl, by show 0 ≤ sizeLine; decide, fun T1 hT1 => ?_⟩
        have sT : Same H9 (upd H9 T1 (.tup [])) := fun b o hb => by
          rw [upd_ne (ne_of_none hb hT1)]
          exact hb
        have aT1 : upd H9 T1 (.tup []) T1 = some (.tup []) := upd_same
        generalize upd H9 T1 (.tup []) = HT at sT aT1
        have htT := sT _ _ ht9
        have PT1 := P29.mono sT
        have PT2 := P9.mono sT
        have bT : But l H HT := b19.trans (But.same sT)
        have pT : PenAt HT l c (k + 20) := p9.mono sT (by omega)
        obtain ⟨f1, f2, f3, f4⟩ := id PT1
        obtain ⟨f5, f6, f7, f8⟩ := id PT2
        refine ⟨.tuple (ns.map PyData.str), .tuple [], .tup (SqT.of htT) (dp_strs ns), .tup (SqT.of aT1) .nil, shn, by decide +kernel, ?_⟩
        rw [show PyData.eqv (.tuple (ns.map PyData.str)) (.tuple []) = decide (ns = []) from eqv_strs ns []]
        refine ⟨_, rfl, ite2 (fun h0 => q HT bT pT) (fun h0 => ?_)⟩
        refine ⟨_, rfl, p', f1, _, rfl, f3, pf_no _ (by decide +kernel), _, rfl, p', q', _, (ns.dropLast ++ [zed lz]), rfl, PT1, PT2, _, rfl, p', f1, _, rfl, f3, p', f1, f2, rfl, f3, _, rfl, q', f5, _, rfl, f7, q', f5, f6, rfl, f7, _, _, _, _, rfl, rfl, SqT.of f4, SqT.of f8, rfl, ?_⟩
        rw [decide_eq_true rfl]
        exact q HT bT pT
end
end Pl

namespace Pl
open PySem L2 Own TL RZ LamX
/-! ### one place against ten things -/
abbrev sAlone : Stmt := top 21
abbrev Nal : List Str := ["_law_pen_here", "_law_some", "_law_here", "_law_thing"]
theorem scAlone : FnScope Nal ["_law_pen_here", "_law_some"] (defScope sAlone) := ⟨rfl, rfl, rfl, by decide +kernel, rfl, by decide +kernel, by decide +kernel⟩
/-- the lambda's name in the tables -/
def qAl : Str := (PyProof.Rows.envOfC "_law_alone_right" (defScope sAlone) 0 0 .none).qual ++ "<lambda>"
theorem three_ru {X : Cx} {k : Nat} {H : Hp} (a b c : Bool) : RUs X [] k H [V.bl a, V.bl b, V.bl c] [tfT a, tfT b, tfT c] := .cons (RU.bl a) (.cons (RU.bl b) (.cons (RU.bl c) .nil))
def spAlone (Tb : List (Addr × Str)) : Sp := fun vs H Q _ => ∃ (l c t : Addr) (ns : List Str) (k : Nat), vs = [.ref l, .ref t] ∧ PenAt H l c k ∧ k ≤ 80000 ∧ H t = some (.tup (ns.map V.str)) ∧ Nms ns ∧ Tabs Tb H ∧
  ∀ H', (∀ b o, H b = some o → b ≠ l → (∀ ps, o ≠ .tbl ps) → H' b = some o) → Tabs Tb H' → PenAt H' l c (k + 1) → Q (.bl true) H'
end Pl

namespace Pl
open PySem L2 Own TL RZ LamX
/-! ### the ten things -/
section
variable {X : Cx} {a : Ad} {k : Nat} {H : Hp}
theorem nm_rep {n : Str} (h : okN n = true) : (reprText n).length ≤ 82 := by
  have a := StrLaws.reprText_len n (fun c hc => by
    have z := okN_signs h c (by simpa [tl] using hc)
    have b : ∀ c ∈ tl SIGNS, c < 16 ^ 8 := by decide +kernel
    exact b c z)
  have b := (okN_len h).2
  omega
theorem nms_ru : ∀ (ns : List Str), (∀ n ∈ ns, okN n = true) → RUs X [] k H (ns.map V.str) (ns.map reprText)
  | [], _ => .nil
  | n :: ns, h => .cons (RU.str n (Nat.le_trans (nm_rep (h n List.mem_cons_self)) (by decide))) (nms_ru ns fun m hm => h m (List.mem_cons_of_mem _ hm))
/-- a thing of another kind, told by repr -/
structure Th (X : Cx) (C : Addr) (H : Hp) (x : V) : Prop where
  bi : Bi H x
  fo : Fo X.K C H x
  ru : ∃ as s, RU X as 4 H x s ∧ s.length ≤ 10000 ∧ ∀ b ∈ as, H b ≠ none
theorem th_non (ty : PySem.W.typeIn X.K (.ref a.C) = some (.type "type")) (hm : PySem.W.mroIn X.K a.C (.type "object") = some true) : Th X a.C H .non :=
  ⟨.inl rfl, ⟨_, .base .non, kit_tyC ty hm rfl⟩, [], _, RU.non, by decide, by simp⟩
theorem th_int (ty : PySem.W.typeIn X.K (.ref a.C) = some (.type "type")) (hm : PySem.W.mroIn X.K a.C (.type "object") = some true) (n : Nat) (h : n ≤ 8) : Th X a.C H (.int n) := by
  refine ⟨.inr (.inl ⟨_, rfl⟩), ⟨_, .base (.int _), kit_tyC ty hm rfl⟩, [], _, RU.int _ ?_, ?_, by simp⟩
  · have : n = 0 ∨ n = 1 ∨ n = 2 ∨ n = 3 ∨ n = 4 ∨ n = 5 ∨ n = 6 ∨ n = 7 ∨ n = 8 := by omega
    rcases this with e | e | e | e | e | e | e | e | e <;> (subst e; decide +kernel)
  · have : n = 0 ∨ n = 1 ∨ n = 2 ∨ n = 3 ∨ n = 4 ∨ n = 5 ∨ n = 6 ∨ n = 7 ∨ n = 8 := by omega
    rcases this with e | e | e | e | e | e | e | e | e <;> (subst e; decide +kernel)
theorem th_bl (ty : PySem.W.typeIn X.K (.ref a.C) = some (.type "type")) (hm : PySem.W.mroIn X.K a.C (.type "object") = some true) (b : Bool) : Th X a.C H (.bl b) :=
  ⟨.inr (.inr (.inl ⟨_, rfl⟩)), ⟨_, .base (.bl _), kit_tyC ty hm rfl⟩, [], _, RU.bl b, by cases b <;> decide +kernel, by simp⟩
theorem th_str (ty : PySem.W.typeIn X.K (.ref a.C) = some (.type "type")) (hm : PySem.W.mroIn X.K a.C (.type "object") = some true) (y : Str) (h : (reprText y).length ≤ 10000) : Th X a.C H (.str y) :=
  ⟨.inr (.inr (.inr (.inl ⟨_, rfl⟩))), ⟨_, .base (.str _), kit_tyC ty hm rfl⟩, [], _, RU.str y (Nat.le_trans h (by decide)), h, by simp⟩
theorem sum_rep : ∀ ns : List Str, (∀ n ∈ ns, okN n = true) → ((ns.map reprText).map (·.length)).sum ≤ 82 * ns.length
  | [], _ => by simp
  | n :: ns, h => by
    have a := nm_rep (h n List.mem_cons_self)
    have b := sum_rep ns fun m hm => h m (List.mem_cons_of_mem _ hm)
    simp only [List.map_cons, List.sum_cons, List.length_cons]
    omega
theorem tup_len {ns : List Str} (hn : Nms ns) : (tupleText (ns.map reprText)).length ≤ 10000 := by
  have a := tupleText_len_le (ns.map reprText)
  have b := sum_rep ns hn.2
  have c := hn.1
  rw [List.length_map] at a
  omega
theorem lst_len {ns : List Str} (hn : Nms ns) : (listText (ns.map reprText)).length ≤ 10000 := by
  have a := listText_len_le (ns.map reprText)
  have b := sum_rep ns hn.2
  have c := hn.1
  rw [List.length_map] at a
  omega
theorem th_tup (ty : PySem.W.typeIn X.K (.ref a.C) = some (.type "type")) (hm : PySem.W.mroIn X.K a.C (.type "object") = some true) {t : Addr} {ns : List Str} (ht : H t = some (.tup (ns.map V.str))) (hn : Nms ns) : Th X a.C H (.ref t) :=
  ⟨.inr (.inr (.inr (.inr (.inr (.inl ⟨_, _, rfl, ht⟩))))), ⟨_, .base (.tup ht), kit_tyC ty hm rfl⟩, [t], _, RU.tuple ht (by simp) (nms_ru ns hn.2), tup_len hn, fun b hb => by
    rw [List.mem_singleton.mp hb, ht]
    simp⟩
theorem th_lst (ty : PySem.W.typeIn X.K (.ref a.C) = some (.type "type")) (hm : PySem.W.mroIn X.K a.C (.type "object") = some true) {t : Addr} {ns : List Str} (ht : H t = some (.lst (ns.map V.str))) (hn : Nms ns) : Th X a.C H (.ref t) := by
  refine ⟨.inr (.inr (.inr (.inr (.inl ⟨_, _, rfl, ht⟩)))), ⟨_, .base (.lst ht), kit_tyC ty hm rfl⟩, ?_⟩
  cases ns with
  | nil => exact ⟨[], _, RU.list0 ht, by decide +kernel, by simp⟩
  | cons n ns => exact ⟨[t], _, RU.list ht (by simp) (nms_ru (n :: ns) hn.2), lst_len hn, fun b hb => by
      rw [List.mem_singleton.mp hb, ht]
      simp⟩
theorem th_here (W : Wo X.prog X.w X.K X.mg X.base a) (ty : PySem.W.typeIn X.K (.ref a.C) = some (.type "type")) (hm : PySem.W.mroIn X.K a.C (.type "object") = some true) {t p : Addr} {ns : List Str} (ht : H t = some (.lst [.ref p])) (hp : PlA a.C H p ns) (hn : Nms ns) : Th X a.C H (.ref t) := by
  refine ⟨.inr (.inr (.inr (.inr (.inl ⟨_, _, rfl, ht⟩)))), ⟨_, .base (.lst ht), kit_tyC ty hm rfl⟩, [t], listText [shown ns], ?_, ?_, fun b hb => by
      rw [List.mem_singleton.mp hb, ht]
      simp⟩
  · obtain ⟨dx, u, h1, h2⟩ := id hp
    refine RU.list ht (by simp) (.cons ?_ .nil)
    exact RU.own (E0 := fun _ _ _ => False) h1 W.mRepr.at_ W.mRepr.fn W.cRepr (Nat.le_refl _) (fun _ _ _ _ h => h) fun H1 s1 => ⟨p, ns, rfl, hp.mono s1, hn, rfl, Same.refl _⟩
  · have a := listText_len_le [shown ns]
    have b := shown_len hn
    simp only [List.map_cons, List.map_nil, List.sum_cons, List.sum_nil, List.length_cons, List.length_nil] at a
    omega
theorem th_dct (ty : PySem.W.typeIn X.K (.ref a.C) = some (.type "type")) (hm : PySem.W.mroIn X.K a.C (.type "object") = some true) {t : Addr} (ht : H t = some (.dK [])) : Th X a.C H (.ref t) := by
  refine ⟨.inr (.inr (.inr (.inr (.inr (.inr ⟨_, _, rfl, ht⟩))))), ⟨_, .base (.dK ht), kit_tyC ty hm rfl⟩, [t], dictText [], ?_, by decide +kernel, fun b hb => by
      rw [List.mem_singleton.mp hb, ht]
      simp⟩
  refine RU.of_K (d := 1) (by decide) fun pins σ H1 s u s1 I rx => ?_
  cases (show u = Value.ref t from rx)
  obtain ⟨_, hm, vs, kv, o, es, ep, ho, hc, hd, _, hp, _⟩ := I.hok t _ (s1 _ _ ht)
  cases kv
  refine ReprK.dict ho hc.1 hd hm (by simp) ?_
  have e : es.toList = [] := List.length_eq_zero_iff.mp hp.length
  rw [e]
  exact .nil
end
end Pl

namespace Pl
open PySem L2 Own TL RZ LamX
section
variable {P : Program} {w : World} {K : PySem.W.Frag} {mg : Str → Option Value} {base : Heap} {a : Ad} {f : Addr}
theorem gAlone {gM gH c0 P0 : Addr} {fdM : FuncData} {Tb : List (Addr × Str)} {oc kV doc pm ct oc2 kV2 doc2 pm2 cd2 ct2 : Value} {od an od2 an2 : Option Addr} {osl osl2 : Array (Option Value)} (W : Wo P w K mg base a) (B : NotB K a.C) (ty : PySem.W.typeIn K (.ref a.C) = some (.type "type"))
    (lk : K.lookup f = some ⟨oc, od, .func (PySem.W.fnOf "_law_alone_right" "_law_alone_right" (defArgs sAlone) (defBody sAlone) (defScope sAlone) .none kV doc pm an (.ref c0) ct), osl⟩) (hcd : PySem.W.codeIn K (.ref c0) "_law_alone_right" = true)
    (bF : L2.Binds K (PySem.W.fnOf "_law_alone_right" "_law_alone_right" (defArgs sAlone) (defBody sAlone) (defScope sAlone) .none kV doc pm an (.ref c0) ct) ["_law_pen_here", "_law_some"] [])
    (GM : FnOk P w K mg base CX0 6 gM fdM ["_law_pen_here", "_law_some"] (spMade a.C)) (mM : mg "_law_made" = some (.ref gM)) (kM : PySem.W.keepIn K (.ref gM) = true) (bM : L2.Binds K fdM ["_law_pen_here", "_law_some"] [])
    (mH : mg "_law_heard" = some (.ref gH)) (kH : PySem.W.keepIn K (.ref gH) = true) (lkH : K.lookup gH = some ⟨oc2, od2, .func (PySem.W.fnOf "_law_heard" "_law_heard" (defArgs sHeard) (defBody sHeard) (defScope sHeard) .none kV2 doc2 pm2 an2 cd2 ct2), osl2⟩) (hcH : PySem.W.codeIn K cd2 "_law_heard" = true)
    (bH : L2.Binds K (PySem.W.fnOf "_law_heard" "_law_heard" (defArgs sHeard) (defBody sHeard) (defScope sHeard) .none kV2 doc2 pm2 an2 cd2 ct2) ["_law_ask"] [])
    (TB : TabB base mg c0 P0) (hmT : (P0, qAl) ∈ Tb) (hu : ∀ p ∈ Tb, p.1 = P0 → p.2 = qAl) : FnG P w K mg base CX0 10 f (spAlone Tb) := by
  refine fnG_lk lk hcd scAlone bF (fun vs H Q E h => ?_) (fun A outer s H vs Q E hr hg h => ?_)
  · obtain ⟨l, c, t, ns, k, rfl, _⟩ := h
    rfl
  · obtain ⟨l, c, t, ns, k, rfl, PN, hk, ht, hn, hT, q⟩ := h
    have hr2 : Room 2 _ := hr.mono (by decide)
    have hr3 : Room 3 _ := hr.mono (by decide)
    have hr5 : Room 5 _ := hr.mono (by decide)
    have hr6 : Room 6 _ := hr.mono (by decide)
    refine ⟨_, PSs.nox (pss_cons (ps_set (i := 2) scAlone.nd rfl (Or.inr rfl) (pe_call GM hr6 (by rfl) mM kM bM .nil pass0 (pa_cons (pv 0) (pa_cons (pv 1) pa_nil))))
      (pss_cons (ps_for PassesOwn.never rfl (pi_list (pe_lst (pa_cons pe_non (pa_cons pe_int (pa_cons pe_bl (pa_cons pe_str (pa_cons (pe_prop (pv 2) W.U.cl W.pText W.cText hr2 W.bText .nil pass0 rfl) (pa_cons (pe_prop (pv 2) W.U.cl W.pNames W.cNames hr2 W.bNames .nil pass0 rfl)
          (pa_cons (pe_callTy call_list_of (by rfl) W.T.b.list (by decide +kernel) (pa_cons (pe_prop (pv 2) W.U.cl W.pNames W.cNames hr2 W.bNames .nil pass0 rfl) pa_nil)) (pa_cons (pe_lst (pa_cons (pv 2) pa_nil)) (pa_cons pe_dnewK
          (pa_cons (pe_callB call_len_seq (by rfl) W.T.b.len PySem.boot_len (pa_cons (pv 1) pa_nil)) pa_nil)))))))))))) (pg_name (i := 3) scAlone.nd rfl (Or.inr rfl))
        (pss_cons (ps_if (pt_cmpR op_ne (pe_callB (call_repr (k := 1) hg hr3) (by rfl) W.repr (by decide +kernel) (pa_cons (pe_lst (pa_cons (pe_cmpR (op_eqL (C := a.C) W.mEq.at_ W.mEq.fn W.cEqF (hr.mono (by decide)) pass0) (pv 2) (pv 3) (nomark _))
            (pa_cons (pe_cmpR (op_neL (C := a.C) W.ne W.sub W.mEq.at_ W.mEq.fn W.cEqF hr2 pass0) (pv 2) (pv 3) (nomark _)) (pa_cons (pe_cmpR (op_eqR B W.mEq.at_ W.mEq.fn W.cEqF (hr.mono (by decide)) pass0) (pv 3) (pv 2) (nomark _)) pa_nil)))) pa_nil)) pe_str (nomark _)) (pss_one (ps_ret pe_bl)) pss_nil)
        (pss_one (ps_if (pt_cmpR op_ne (pe_callB (call_repr (k := 4) hg hr6) (by rfl) W.repr (by decide +kernel) (pa_cons
            (pe_lamcall (T := Tb) (TT := TTh K a.CB) (x := "_law_heard") (a := "_law_ask") (g := gH) (c := c0) (P := P0) (k := 3) (Ng := Ngh) (by rfl) mH kH lkH hcH bH scHeard rfl (.inl rfl) (heard_gives W.R W.T.b.isi) TB rfl hmT hu hr5 (lamS_by (sc := defScope sAlone) (by decide +kernel)) rfl (fun _ _ _ _ _ => rfl)
              (fun A' outer' s' H' E' f' c' hr' => pe_meth (pv 2) W.U.cl W.mAhead W.cAheadF hr' W.bAhead .nil (passes_call (takes_of rfl rfl rfl rfl) fun _ _ _ _ h => h) (pa_cons (pv 3) pa_nil))) pa_nil))
          (pe_callB (call_repr (k := 4) hg hr6) (by rfl) W.repr (by decide +kernel) (pa_cons (pe_tup (pa_cons pe_str (pa_cons (pv 3) pa_nil))) pa_nil)) (nomark _)) (pss_one (ps_ret pe_bl)) pss_nil))))
      (pss_one (ps_ret pe_bl)))), ?_⟩
    obtain ⟨lx, hlx⟩ := PN.lst
    have ntl : t ≠ l := ne_of ht hlx (by intro z; cases z)
    refine ⟨_, rfl, _, rfl, l, c, t, ns, k, rfl, PN, by omega, ht, hn, fun p H1 b1 P1 p1 => ?_⟩
    have ht1 := b1 _ _ ht ntl
    obtain ⟨dx, tt, g1, g2⟩ := id P1
    refine ⟨_, rfl, p, dx, _, rfl, g1, p, ns, rfl, P1, hn, _, rfl, p, dx, _, rfl, g1, p, dx, tt, rfl, g1, _, rfl, p, dx, _, rfl, g1, p, dx, tt, rfl, g1, tt, _, rfl, .inr (SqT.of g2), fun L1 h1 => ?_⟩
    have s2 : Same H1 (upd H1 L1 (.lst (ns.map V.str))) := fun b o hb => by
      rw [upd_ne (ne_of_none hb h1)]
      exact hb
    have a2 : upd H1 L1 (.lst (ns.map V.str)) L1 = some (.lst (ns.map V.str)) := upd_same
    generalize upd H1 L1 (.lst (ns.map V.str)) = H2 at s2 a2 ⊢
    refine ⟨_, rfl, by show 1 ≤ sizeLine; decide, fun L2 h2 => ?_⟩
    have s3 : Same H2 (upd H2 L2 (.lst [.ref p])) := fun b o hb => by
      rw [upd_ne (ne_of_none hb h2)]
      exact hb
    have a3 : upd H2 L2 (.lst [.ref p]) L2 = some (.lst [.ref p]) := upd_same
    generalize upd H2 L2 (.lst [.ref p]) = H3 at s3 a3 ⊢
    refine fun D hD => ?_
    have s4 : Same H3 (upd H3 D (.dK [])) := fun b o hb => by
      rw [upd_ne (ne_of_none hb hD)]
      exact hb
    have a4 : upd H3 D (.dK []) D = some (.dK []) := upd_same
    generalize upd H3 D (.dK []) = H4 at s4 a4 ⊢
    have ht4 := s4 _ _ (s3 _ _ (s2 _ _ ht1))
    refine ⟨_, rfl, t, _, rfl, .inr (SqT.of ht4), by show 10 ≤ sizeLine; decide, fun L hL => ?_⟩
    have s5 : Same H4 (upd H4 L (.lst [V.non, V.int 0, V.bl true, V.str "", V.str (txt ns), V.ref tt, V.ref L1, V.ref L2, V.ref D, V.int ((ns.map V.str).length : Nat)])) := fun b o hb => by
      rw [upd_ne (ne_of_none hb hL)]
      exact hb
    have a5 : upd H4 L (.lst [V.non, V.int 0, V.bl true, V.str "", V.str (txt ns), V.ref tt, V.ref L1, V.ref L2, V.ref D, V.int ((ns.map V.str).length : Nat)]) L = some (.lst [V.non, V.int 0, V.bl true, V.str "", V.str (txt ns), V.ref tt, V.ref L1, V.ref L2, V.ref D, V.int ((ns.map V.str).length : Nat)]) := upd_same
    have eL : (.int 0 : V) = .int 0 := rfl
    generalize hG5 : upd H4 L (.lst [V.non, V.int 0, V.bl true, V.str "", V.str (txt ns), V.ref tt, V.ref L1, V.ref L2, V.ref D, V.int ((ns.map V.str).length : Nat)]) = H5 at s5 a5 ⊢
    have s35 := s4.trans s5
    have s25 := s3.trans s35
    have s15 := s2.trans s25
    have P5 := P1.mono s15
    have t5 := s15 _ _ g2
    have L15 := s25 _ _ a2
    have L25 := s35 _ _ a3
    have D5 := s5 _ _ a4
    have T5 : Tabs Tb H5 := fun pr hpr => by
      obtain ⟨ps, x1, x2, x3⟩ := hT pr hpr
      have nl : pr.1 ≠ l := ne_of x1 hlx (by intro z; cases z)
      refine ⟨ps, s15 _ _ (b1 _ _ x1 nl), x2, fun po cv hc => ?_⟩
      obtain ⟨cc, e1, e2⟩ := x3 po cv hc
      exact ⟨cc, e1, s15 _ _ (b1 _ _ e2 (ne_of e2 hlx (by intro z; cases z)))⟩
    refine ⟨L, rfl, ⟨_, SqL.of a5⟩, for_it (walk_list (K := K) (a := L)) (fun i σ H' => (∃ v, σ = [some (.ref l), some (.ref t), some (.ref p), v]) ∧ ExtN H5 H' ∧ Tabs Tb H') ⟨⟨none, rfl⟩, ExtN.refl _, T5⟩
      (fun i σ H' _ e => SqL.of (e.2.1 _ _ a5 (by intro ps z; cases z))) (fun i x σ H6 H7 hi e y => ?_) (fun σ H6 e => ?_)⟩
    · obtain ⟨⟨v, rfl⟩, e6, T6⟩ := e
      obtain ⟨rfl, hx⟩ := y
      have th : ∀ H', ExtN H5 H' → Th (cxOf CX0 P w K mg base Nal "_law_alone_right" (defScope sAlone) f (.ref c0) A outer s H E).nox a.C H' x := fun H' ee => by
        have hx := List.mem_of_getElem? hx
        have hmo := W.U.hm
        have Wx : Wo (cxOf CX0 P w K mg base Nal "_law_alone_right" (defScope sAlone) f (.ref c0) A outer s H E).nox.prog (cxOf CX0 P w K mg base Nal "_law_alone_right" (defScope sAlone) f (.ref c0) A outer s H E).nox.w (cxOf CX0 P w K mg base Nal "_law_alone_right" (defScope sAlone) f (.ref c0) A outer s H E).nox.K (cxOf CX0 P w K mg base Nal "_law_alone_right" (defScope sAlone) f (.ref c0) A outer s H E).nox.mg (cxOf CX0 P w K mg base Nal "_law_alone_right" (defScope sAlone) f (.ref c0) A outer s H E).nox.base a := W
        have g : ∀ b o, H5 b = some o → (∀ ps, o ≠ .tbl ps) → H' b = some o := ee
        simp only [List.mem_cons, List.not_mem_nil, or_false] at hx
        rcases hx with h | h | h | h | h | h | h | h | h | h
        · rw [h]; exact th_non ty hmo
        · rw [h]; exact th_int ty hmo 0 (by omega)
        · rw [h]; exact th_bl ty hmo true
        · rw [h]; exact th_str ty hmo _ (by decide +kernel)
        · rw [h]; exact th_str ty hmo _ (Nat.le_trans (rtx_len hn) (by decide))
        · rw [h]; exact th_tup ty hmo (g _ _ t5 (by intro ps z; cases z)) hn
        · rw [h]; exact th_lst ty hmo (g _ _ L15 (by intro ps z; cases z)) hn
        · rw [h]; exact th_here Wx ty hmo (g _ _ L25 (by intro ps z; cases z)) (by
            obtain ⟨x1, x2, x3, x4⟩ := P5
            exact ⟨x1, x2, g _ _ x3 (by intro ps z; cases z), g _ _ x4 (by intro ps z; cases z)⟩) hn
        · rw [h]; exact th_dct ty hmo (g _ _ D5 (by intro ps z; cases z))
        · rw [h]; exact th_int ty hmo _ (by rw [List.length_map]; exact hn.1)
      have P6 : PlA a.C H7 p ns := by
        obtain ⟨x1, x2, x3, x4⟩ := P5
        exact ⟨x1, x2, e6 _ _ x3 (by intro ps z; cases z), e6 _ _ x4 (by intro ps z; cases z)⟩
      obtain ⟨d1, d2, g5, g6⟩ := id P6
      have th6 := th H7 e6
      refine ⟨_, rfl, _, rfl, p, d1, _, rfl, g5, th6.bi, p, x, rfl, th6.fo, ?_⟩
      refine ⟨_, rfl, _, rfl, p, d1, _, rfl, g5, th6.bi, p, x, rfl, th6.fo, false, rfl, ?_⟩
      refine ⟨_, rfl, _, rfl, p, d1, _, rfl, g5, th6.bi, p, x, rfl, th6.fo, by show 3 ≤ sizeLine; decide, fun Lb hLb => ?_⟩
      have s7 : Same H7 (upd H7 Lb (.lst [V.bl false, V.bl (!false), V.bl false])) := fun b o hb => by
        rw [upd_ne (ne_of_none hb hLb)]
        exact hb
      refine ⟨Lb, _, _, [], _, rfl, by simp, three_ru false (!false) false, .inr ⟨upd_same, by simp, rfl⟩, by decide +kernel, fun HC sC => ⟨rfl, _, rfl, iteNS (by decide +kernel) ?_⟩⟩
      have eC : ExtN H5 HC := e6.trans (ExtN.of fun b o hb => sC _ _ (s7 _ _ hb))
      have TC : Tabs Tb HC := T6.ext fun b o hb => sC _ _ (s7 _ _ hb)
      refine ⟨TC, fun HE eE tE f' => ?_⟩
      have eP0 : ExtN H5 HE := eC.trans eE
      have PE_ : PlA a.C HE p ns := by
        obtain ⟨x1, x2, x3, x4⟩ := P5
        exact ⟨x1, x2, eP0 _ _ x3 (by intro ps z; cases z), eP0 _ _ x4 (by intro ps z; cases z)⟩
      obtain ⟨d3, d4, g7, g8⟩ := id PE_
      refine ⟨_, rfl, p, d3, _, rfl, g7, pf_no _ (by decide +kernel), _, rfl, p, x, rfl, (th HE eP0).fo, fun d hd => ?_⟩
      refine ⟨d, x, rfl, rfl, upd_same, fun a' pp na np hne => ?_⟩
      have sd : Same HE (upd HE d (.xd [("value", x)])) := fun b o hb => by
        rw [upd_ne (ne_of_none hb hd)]
        exact hb
      have sa : Same (upd HE d (.xd [("value", x)])) (upd (upd HE d (.xd [("value", x)])) a' (kex a' (.ref a.CB) (some d))) := fun b o hb => by
        rw [upd_ne (ne_of_none hb na)]
        exact hb
      have npp : upd (upd HE d (.xd [("value", x)])) a' (kex a' (.ref a.CB) (some d)) pp = none := by
        rw [upd_ne hne]
        exact np
      generalize upd (upd HE d (.xd [("value", x)])) a' (kex a' (.ref a.CB) (some d)) = HP at sa npp ⊢
      have sP : Same HE HP := sd.trans sa
      have eP : ExtN H5 HP := eP0.trans (ExtN.of fun b o hb => sP _ _ hb)
      obtain ⟨asx, sx, ru, lsx, nz⟩ := (th HP eP).ru
      have sq : Same HP (upd HP pp (.tup [V.str "place", x])) := fun b o hb => by
        rw [upd_ne (ne_of_none hb npp)]
        exact hb
      have hlen : (tupleText [reprText "place", sx]).length ≤ sizeLine := by
        have z := tupleText_len_le [reprText "place", sx]
        have z1 : (reprText ("place" : Str)).length = 7 := by decide +kernel
        simp only [List.map_cons, List.map_nil, List.sum_cons, List.sum_nil, List.length_cons, List.length_nil, z1] at z
        exact Nat.le_trans z (Nat.le_trans (show 7 + (sx.length + 0) + 2 * (0 + 1 + 1) + 3 ≤ 20000 by omega) (by decide))
      refine ⟨pp, _, [reprText "place", sx], asx, _, rfl, fun hm => nz pp hm npp, .cons (RU.str _ (by decide +kernel)) (.cons (ru.mono sq) .nil), .inl ⟨upd_same, rfl⟩, hlen, fun HF sF => ?_⟩
      have sPF : Same HP HF := sq.trans sF
      refine ⟨_, rfl, by show 2 ≤ sizeLine; decide, fun p2 hp2 => ?_⟩
      have sr : Same HF (upd HF p2 (.tup [V.str "place", x])) := fun b o hb => by
        rw [upd_ne (ne_of_none hb hp2)]
        exact hb
      refine ⟨p2, _, [reprText "place", sx], asx, _, rfl, fun hm => ?_, .cons (RU.str _ (by decide +kernel)) (.cons (ru.mono (sPF.trans sr)) .nil), .inl ⟨upd_same, rfl⟩, hlen, fun HG sG => ⟨rfl, _, rfl, iteNS rfl ?_⟩⟩
      · cases e : HP p2 with
        | none => exact nz p2 hm e
        | some o =>
          rw [sPF _ _ e] at hp2
          cases hp2
      · have sEG : Same HE HG := ((sP.trans sPF).trans sr).trans sG
        exact ⟨⟨_, rfl⟩, eP0.trans (ExtN.of fun b o hb => sEG _ _ hb), tE.ext fun b o hb => sEG _ _ hb⟩
    · obtain ⟨⟨v, rfl⟩, e6, T6⟩ := e
      refine q H6 (fun b o hb hbl hbt => e6 _ _ (s15 _ _ (b1 _ _ hb hbl)) hbt) T6 ?_
      obtain ⟨cells, idx, g, x1, x2, x3⟩ := (p1.mono s15 (Nat.le_refl _)).ex
      exact ⟨cells, idx, g, e6 _ _ x1 (by intro ps z; cases z), e6 _ _ x2 (by intro ps z; cases z), x3⟩
end
end Pl

namespace Pl
open PySem L2 Own TL RZ LamX
/-! ### the law -/
abbrev sLaw : Stmt := top 23
abbrev Nlaw : List Str := ["_law_script", "_law_pen_here", "_law_turn", "_law_pool", "_law_some", "_law_one", "_law_k", "_law_other"]
theorem scLaw : FnScope Nlaw ["_law_script"] (defScope sLaw) := ⟨rfl, rfl, rfl, by decide +kernel, rfl, by decide +kernel, by decide +kernel⟩
def spLaw (K : PySem.W.Frag) (Tb : List (Addr × Str)) : Sp := fun vs H Q _ => ∃ (a : Addr) (ns : List Int), vs = [.ref a] ∧ SqL K H a (ns.map V.int) ∧ ns.length ≤ 63 ∧ Tabs Tb H ∧ ∀ H', Q (.bl true) H'
section
variable {P : Program} {w : World} {K : PySem.W.Frag} {mg : Str → Option Value} {base : Heap} {a : Ad} {f : Addr} {fd : FuncData}
theorem gLaw {gN gA gP gO : Addr} {fdN fdO : FuncData} {Tb : List (Addr × Str)} (W : Wo P w K mg base a) (F : Fun K "law" "law" sLaw f fd) (bF : L2.Binds K fd ["_law_script"] [])
    (GN : FnOk P w K mg base CX0 4 gN fdN ["_law_pen_here", "_law_pool"] spNms) (mN : mg "_law_names" = some (.ref gN)) (kN : PySem.W.keepIn K (.ref gN) = true) (bN : L2.Binds K fdN ["_law_pen_here", "_law_pool"] [])
    (GA : FnG P w K mg base CX0 10 gA (spAlone Tb)) (mA : mg "_law_alone_right" = some (.ref gA)) (kA : PySem.W.keepIn K (.ref gA) = true)
    (GP : FnG P w K mg base CX0 8 gP spPair) (mP : mg "_law_pair_right" = some (.ref gP)) (kP : PySem.W.keepIn K (.ref gP) = true)
    (GO : FnOk P w K mg base CX0 8 gO fdO ["_law_pen_here", "_law_pool"] spOrd) (mO : mg "_law_order_right" = some (.ref gO)) (kO : PySem.W.keepIn K (.ref gO) = true) (bO : L2.Binds K fdO ["_law_pen_here", "_law_pool"] []) :
    FnG P w K mg base CX0 11 f (spLaw K Tb) := by
  refine fnG_of F scLaw bF (fun vs H Q E h => ?_) (fun cdv A outer s H vs Q E hr hg h => ?_)
  · obtain ⟨a, ns, rfl, _⟩ := h
    rfl
  · obtain ⟨ad, ns, rfl, hS, hlen, hT, q⟩ := h
    have hr1 : Room 1 _ := hr.mono (by decide)
    have hr2 : Room 2 _ := hr.mono (by decide)
    have hr4 : Room 4 _ := hr.mono (by decide)
    have hr8 : Room 8 _ := hr.mono (by decide)
    refine ⟨_, PSs.nox (pss_cons (ps_set (i := 1) scLaw.nd rfl (Or.inr rfl) (pe_call W.cPen hr1 (by rfl) W.mPen W.kPen W.bPen .nil pass0 (pa_cons (pv 0) pa_nil)))
      (pss_cons (ps_for PassesOwn.never rfl (pi_range1 (by rfl) W.T.b.range (pa_cons pe_int pa_nil)) (pg_name (i := 2) scLaw.nd rfl (Or.inl rfl))
        (pss_cons (ps_set (i := 3) scLaw.nd rfl (Or.inr rfl) (pe_call W.cPick hr2 (by rfl) W.mPick W.kPick W.bPick .nil pass0 (pa_cons (pv 1) (pa_cons (pe_lst (pa_cons (pe_lst (pa_cons pe_str (pa_cons pe_str (pa_cons pe_str (pa_cons pe_str pa_nil)))))
            (pa_cons (pe_lst (pa_cons pe_str (pa_cons pe_str (pa_cons pe_str (pa_cons pe_str pa_nil))))) (pa_cons (pe_lst (pa_cons pe_str (pa_cons pe_str (pa_cons pe_str (pa_cons pe_str pa_nil))))) pa_nil)))) pa_nil))))
        (pss_cons (ps_setLc (i := 4) (own := [("_law_k", 6)]) (g := gName 6) (tt := tYes) rfl scLaw.nd rfl rfl (sw_true rfl rfl rfl (by decide +kernel))
            (pi_range1 (by rfl) W.T.b.range (pa_cons (pe_op op_add pe_int (pe_call W.cDraw hr1 (by rfl) W.mDraw W.kDraw W.bDraw .nil pass0 (pa_cons (pv 1) (pa_cons pe_int pa_nil)))) pa_nil))
            (blkOk_by (own := [("_law_k", 6)]) (N := Nlaw) (sc := defScope sLaw) (by decide +kernel)) (fun _ _ _ _ _ => pg_name (i := 6) scLaw.nd rfl (Or.inl rfl)) (fun _ _ _ _ _ => pts_nil)
            (fun _ _ _ _ _ => pe_call GN hr4 (by rfl) mN kN bN .nil pass0 (pa_cons (pv 1) (pa_cons (pv 3) pa_nil))))
        (pss_cons (ps_expr (pe_bm PySem.F.plainAttrs_list PySem.F.slot_list_append PySem.F.type_list_append mt_append (pv 4) (pa_cons (pe_ix ix_list (pv 4) pe_int (fun _ _ => rfl)) pa_nil)))
        (pss_cons (ps_for PassesOwn.never rfl (pi_list (pv 4)) (pg_name (i := 5) scLaw.nd rfl (Or.inr rfl))
          (pss_cons (ps_if (pt_not (pt_val (pe_callRef (callG GA hr hg pass0) (by rfl) mA kA (pa_cons (pv 1) (pa_cons (pv 5) pa_nil))))) (pss_one (ps_ret pe_bl)) pss_nil)
          (pss_one (ps_if (pt_cmpR (op_neD hr.units) (pe_lc (own := [("_law_other", 7)]) (g := gName 7) (tt := tNot (tB (fun σ H Q => tCons (tVar 1) (tCons (tVar 5) (tCons (tVar 7) tNil)) σ H fun vs H1 => spPair vs H1 Q E0))) (te := tVar 7) rfl scLaw.nd (pi_list (pv 4))
              (blkOk_by (own := [("_law_other", 7)]) (N := Nlaw) (sc := defScope sLaw) (by decide +kernel)) (fun _ _ _ _ _ => pg_name (i := 7) scLaw.nd rfl (Or.inl rfl))
              (fun _ _ _ _ _ => pts_one (pt_not (pt_val (pe_callRef (callG GP hr8 hg pass0) (by rfl) mP kP (pa_cons (pv 1) (pa_cons (pv 5) (pa_cons (pv 7) pa_nil))))))) (fun _ _ _ _ _ => pv 7)) (pe_lst pa_nil) (nomark _)) (pss_one (ps_ret pe_bl)) pss_nil))))
        (pss_one (ps_if (pt_not (pt_val (pe_call GO hr8 (by rfl) mO kO bO .nil pass0 (pa_cons (pv 1) (pa_cons (pv 3) pa_nil))))) (pss_one (ps_ret pe_bl)) pss_nil)))))))
      (pss_one (ps_ret pe_bl)))), ?_⟩
    refine ⟨_, rfl, ad, ns, rfl, hS, hlen, fun l c H1 s1 nl PN => ?_⟩
    have T1 : Tabs Tb H1 := hT.ext s1
    refine ⟨3, rfl, by decide, by decide, for_it (walk_range (lo := 0) (n := (3 : Int).toNat)) (fun i σ H' => (∃ v2 v3 v4 v5 v6 v7, σ = [some (.ref ad), some (.ref l), v2, v3, v4, v5, v6, v7]) ∧ Tabs Tb H' ∧ PenAt H' l c (i * 300))
      ⟨⟨none, none, none, none, none, none, rfl⟩, T1, PN⟩ (fun _ _ _ _ _ => trivial) (fun i x σ H3 H2 hi e y => ?_) (fun σ H2 e => ?_)⟩
    · obtain ⟨⟨v2, v3, v4, v5, v6, v7, rfl⟩, T2, PN2⟩ := e
      obtain ⟨rfl, rfl⟩ := y
      have hi3 : i < 3 := hi
      obtain ⟨lx, hlx⟩ := PN2.lst
      refine ⟨_, rfl, ⟨by show 4 ≤ sizeLine; decide, fun m1 hm1 => ⟨by show 4 ≤ sizeLine; decide, fun m2 hm2 => ⟨by show 4 ≤ sizeLine; decide, fun m3 hm3 => ⟨by show 3 ≤ sizeLine; decide, fun L hL => ?_⟩⟩⟩⟩⟩
      have q1 : Same H2 (upd H2 m1 (.lst [V.str "a", V.str "b", V.str "ab", V.str "a0"])) := fun b o hb => by rw [upd_ne (ne_of_none hb hm1)]; exact hb
      generalize hA : upd H2 m1 (.lst [V.str "a", V.str "b", V.str "ab", V.str "a0"]) = HA at *
      have g1 : HA m1 = some (.lst [V.str "a", V.str "b", V.str "ab", V.str "a0"]) := by rw [← hA]; exact upd_same
      have q2 : Same HA (upd HA m2 (.lst [V.str "0", V.str "9", V.str "a", V.str "z"])) := fun b o hb => by rw [upd_ne (ne_of_none hb hm2)]; exact hb
      generalize hB : upd HA m2 (.lst [V.str "0", V.str "9", V.str "a", V.str "z"]) = HB at *
      have g2 : HB m2 = some (.lst [V.str "0", V.str "9", V.str "a", V.str "z"]) := by rw [← hB]; exact upd_same
      have q3 : Same HB (upd HB m3 (.lst [V.str "abcdefgh", V.str "abcdefg", V.str "b1", V.str "b"])) := fun b o hb => by rw [upd_ne (ne_of_none hb hm3)]; exact hb
      generalize hC : upd HB m3 (.lst [V.str "abcdefgh", V.str "abcdefg", V.str "b1", V.str "b"]) = HC at *
      have g3 : HC m3 = some (.lst [V.str "abcdefgh", V.str "abcdefg", V.str "b1", V.str "b"]) := by rw [← hC]; exact upd_same
      have q4 : Same HC (upd HC L (.lst [V.ref m1, V.ref m2, V.ref m3])) := fun b o hb => by rw [upd_ne (ne_of_none hb hL)]; exact hb
      generalize hD : upd HC L (.lst [V.ref m1, V.ref m2, V.ref m3]) = HD at *
      have g4 : HD L = some (.lst [V.ref m1, V.ref m2, V.ref m3]) := by rw [← hD]; exact upd_same
      have q14 := ((q1.trans q2).trans q3).trans q4
      have nL : L ≠ l := fun e => by
        rw [e, ((q1.trans q2).trans q3) _ _ hlx] at hL
        cases hL
      refine ⟨l, c, L, _, i * 300, rfl, PN2.mono q14 (Nat.le_refl _), by omega, g4, nL, by show 0 < 3; decide, by show 3 < 1000000; decide, fun j x H4 hj b4 p4 => ?_⟩
      obtain ⟨m, pool, rfl, PO, hz⟩ : ∃ (m : Addr) (pool : List Str), x = .ref m ∧ Pool HD l m pool ∧ ∀ n ∈ pool, zOk n = true := by
        have hx := List.mem_of_getElem? hj
        simp only [List.mem_cons, List.not_mem_nil, or_false] at hx
        rcases hx with h | h | h
        · refine ⟨m1, ["a", "b", "ab", "a0"], h, ⟨q4 _ _ (q3 _ _ (q2 _ _ g1)), fun e => ?_, by simp, by decide, by decide +kernel⟩, by decide +kernel⟩
          rw [e, hlx] at hm1
          cases hm1
        · refine ⟨m2, ["0", "9", "a", "z"], h, ⟨q4 _ _ (q3 _ _ g2), fun e => ?_, by simp, by decide, by decide +kernel⟩, by decide +kernel⟩
          rw [e, q1 _ _ hlx] at hm2
          cases hm2
        · refine ⟨m3, ["abcdefgh", "abcdefg", "b1", "b"], h, ⟨q4 _ _ g3, fun e => ?_, by simp, by decide, by decide +kernel⟩, by decide +kernel⟩
          rw [e, (q1.trans q2) _ _ hlx] at hm3
          cases hm3
      have PO4 := PO.but b4
      have b24 : But l H2 H4 := fun b o hb hn => b4 _ _ (q14 _ _ hb) hn
      refine ⟨_, rfl, l, c, _, i * 300 + 1, rfl, p4, by omega, by decide, by decide, fun r H5 r0 r6 b5 p5 => ?_⟩
      have b25 := b24.trans b5
      have PO5 := PO4.but b5
      obtain ⟨lx5, hlx5⟩ := p5.lst
      obtain ⟨lc5, hc5⟩ := p5.cell
      refine ⟨1, r, rfl, rfl, 1 + r, rfl, by omega, by omega, fun D hD => lc_it (walk_range (lo := 0) (n := (1 + r).toNat)) (fun i' H' => But l H5 H' ∧ ∃ ts : List Addr, H' D = some (.lst (ts.map V.ref)) ∧ ts.length = i' ∧ (∀ t ∈ ts, ∃ ns, H' t = some (.tup (ns.map V.str)) ∧ Nms ns) ∧ PenAt H' l c (i * 300 + 2 + 9 * i'))
        ⟨fun b o hb hb2 => ?_, [], upd_same, rfl, by simp, p5.mono (fun b o hb => ?_) (Nat.le_refl _)⟩ (fun _ _ _ _ => trivial) (fun i' x H6 H7 hi' p y => ?_) (fun H6 p => ?_)⟩
      · rw [upd_ne (ne_of_none hb hD)]
        exact hb
      · rw [upd_ne (ne_of_none hb hD)]
        exact hb
      · obtain ⟨b6, ts, hD6, hl6, hts, p6⟩ := p
        obtain ⟨rfl, rfl⟩ := y
        have hi6 : i' < 6 := by omega
        have hDl : D ≠ l := (ne_of_none hlx5 hD).symm
        have hDc : D ≠ c := (ne_of_none hc5 hD).symm
        obtain ⟨lx6, hlx6⟩ := p6.lst
        refine ⟨rfl, _, rfl, _, rfl, l, c, m, pool, _, rfl, p6, by omega, PO5.but b6, fun t ns' H8 b8 ht8 hn8 hin8 p8 => ?_⟩
        have hD8 := b8 _ _ hD6 hDl
        refine ⟨_, hD8, by rw [List.length_map, hl6]; exact Nat.lt_trans hi6 (by decide), fun b o hb hb2 => ?_, ts ++ [t], by rw [upd_same, List.map_append]; rfl, by rw [List.length_append, List.length_singleton, hl6], fun z hz => ?_, (p8.mono (Same.refl _) (by omega)).put hDl hDc⟩
        · rw [upd_ne (ne_of_none hb hD)]
          exact b8 _ _ (b6 _ _ hb hb2) hb2
        · rcases List.mem_append.mp hz with h | h
          · obtain ⟨nz, e1, e2⟩ := hts z h
            have e3 := b8 _ _ e1 (ne_of e1 hlx6 (by intro z; cases z))
            exact ⟨nz, by rw [upd_ne (ne_of e3 hD8 (by intro z; cases z))]; exact e3, e2⟩
          · rw [List.mem_singleton.mp h]
            exact ⟨ns', by rw [upd_ne (ne_of ht8 hD8 (by intro z; cases z))]; exact ht8, hn8⟩
      · obtain ⟨b6, ts, hD6, hl6, hts, p6⟩ := p
        have hDl : D ≠ l := (ne_of_none hlx5 hD).symm
        have hDc : D ≠ c := (ne_of_none hc5 hD).symm
        obtain ⟨t0, ht0⟩ : ∃ t0, ts[0]? = some t0 := by
          have : 0 < ts.length := by omega
          exact ⟨ts[0], by simp [this]⟩
        have at0 : atI (ts.map V.ref) 0 = some (V.ref t0) := atI_nat (j := 0) (by rw [List.getElem?_map, ht0]; rfl)
        refine ⟨_, rfl, .inl ⟨rfl, _, SqL.of hD6⟩, _, rfl, D, _, _, V.ref t0, rfl, rfl, SqL.of hD6, at0, D, _, _, rfl, rfl, hD6, by rw [List.length_map, hl6]; exact Nat.lt_of_le_of_lt (show (1 + r).toNat ≤ 10 by omega) (by decide), ?_⟩
        have hmt : ts.map V.ref ++ [V.ref t0] = (ts ++ [t0]).map V.ref := by rw [List.map_append]; rfl
        rw [hmt]
        have hall : ∀ t ∈ ts ++ [t0], ∃ ns, H6 t = some (.tup (ns.map V.str)) ∧ Nms ns := fun t h => by
          rcases List.mem_append.mp h with h | h
          · exact hts t h
          · rw [List.mem_singleton.mp h]
            exact hts t0 (List.mem_of_getElem? ht0)
        have hcnt : (ts ++ [t0]).length ≤ 7 := by rw [List.length_append, List.length_singleton]; omega
        generalize ts ++ [t0] = al at hall hcnt ⊢
        have p7 : PenAt (upd H6 D (.lst (al.map V.ref))) l c (i * 300 + 60) := (p6.mono (Same.refl _) (by omega)).put hDl hDc
        have hD7 : upd H6 D (.lst (al.map V.ref)) D = some (.lst (al.map V.ref)) := upd_same
        have hall7 : ∀ t ∈ al, ∃ ns, upd H6 D (.lst (al.map V.ref)) t = some (.tup (ns.map V.str)) ∧ Nms ns := fun t h => by
          obtain ⟨nz, e1, e2⟩ := hall t h
          exact ⟨nz, by rw [upd_ne (ne_of e1 hD6 (by intro z; cases z))]; exact e1, e2⟩
        have b27 : But l H2 (upd H6 D (.lst (al.map V.ref))) := fun b o hb hn => by
          have z := b25 _ _ hb hn
          rw [upd_ne (ne_of_none z hD)]
          exact b6 _ _ z hn
        have m7 : upd H6 D (.lst (al.map V.ref)) m = some (.lst (pool.map V.str)) := by
          rw [upd_ne (ne_of_none PO5.at_ hD)]
          exact b6 _ _ PO5.at_ PO5.ne
        generalize upd H6 D (.lst (al.map V.ref)) = H7 at p7 hD7 hall7 b27 m7 ⊢
        have T7 : Tabs Tb H7 := fun pr hpr => by
          obtain ⟨ps, x1, x2, x3⟩ := T2 pr hpr
          refine ⟨ps, b27 _ _ x1 (ne_of x1 hlx (by intro z; cases z)), x2, fun po cv hc => ?_⟩
          obtain ⟨cc, e1, e2⟩ := x3 po cv hc
          exact ⟨cc, e1, b27 _ _ e2 (ne_of e2 hlx (by intro z; cases z))⟩
        have PO7 : ∀ H', (∀ b o, H7 b = some o → b ≠ l → (∀ ps, o ≠ .tbl ps) → H' b = some o) → Pool H' l m pool := fun H' kx => by
          exact ⟨kx _ _ m7 PO5.ne (by intro ps z; cases z), PO5.ne, PO5.some_, PO5.few, PO5.ok⟩
        refine ⟨_, rfl, D, rfl, ⟨_, SqL.of hD7⟩, for_it (walk_list (K := K) (a := D)) (fun i' σ H' => (∃ w2 w5 w6 w7, σ = [some (.ref ad), some (.ref l), w2, some (.ref m), some (.ref D), w5, w6, w7]) ∧ (∀ b o, H7 b = some o → b ≠ l → (∀ ps, o ≠ .tbl ps) → H' b = some o) ∧ Tabs Tb H' ∧ PenAt H' l c (i * 300 + 60 + 20 * i'))
          ⟨⟨_, _, _, _, rfl⟩, fun b o h _ _ => h, T7, p7.mono (Same.refl _) (by omega)⟩ (fun i' σ H' _ e => SqL.of (e.2.1 _ _ hD7 hDl (by intro ps z; cases z))) (fun i' x σ H8 H9 hi' e y => ?_) (fun σ H8 e => ?_)⟩
        · obtain ⟨⟨w2, w5, w6, w7, rfl⟩, k8, T8, p8⟩ := e
          obtain ⟨rfl, hx⟩ := y
          rw [List.length_map] at hi'
          have hi7 : i' < 7 := by omega
          rw [List.getElem?_map] at hx
          obtain ⟨t, ht, rfl⟩ := Option.map_eq_some_iff.mp hx
          obtain ⟨ns1, e1, n1⟩ := hall7 t (List.mem_of_getElem? ht)
          obtain ⟨lx7, hlx7⟩ := p7.lst
          have tl1 : t ≠ l := ne_of e1 hlx7 (by intro z; cases z)
          have e8 := k8 _ _ e1 tl1 (by intro ps z; cases z)
          refine ⟨_, rfl, _, rfl, l, c, t, ns1, _, rfl, p8, by omega, e8, n1, T8, fun Ha ka Ta pa => ⟨_, rfl, iteF ?_⟩⟩
          have k9 : ∀ b o, H7 b = some o → b ≠ l → (∀ ps, o ≠ .tbl ps) → Ha b = some o := fun b o h h1 h2 => ka _ _ (k8 _ _ h h1 h2) h1 h2
          have hDa := k9 _ _ hD7 hDl (by intro ps z; cases z)
          obtain ⟨lxa, hlxa⟩ := pa.lst
          obtain ⟨lca, hca⟩ := pa.cell
          refine ⟨_, rfl, D, rfl, ⟨_, SqL.of hDa⟩, fun D2 hD2 => lc_it (tt := tNot (tB (fun σ H Q => tCons (tVar 1) (tCons (tVar 5) (tCons (tVar 7) tNil)) σ H fun vs H1 => spPair vs H1 Q E0))) (walk_list (K := K) (a := D))
            (fun j' H' => But l Ha H' ∧ H' D2 = some (.lst []) ∧ PenAt H' l c (i * 300 + 60 + 20 * i' + 1 + 2 * j')) ⟨fun b o hb _ => by rw [upd_ne (ne_of_none hb hD2)]; exact hb, upd_same, pa.mono (fun b o hb => by rw [upd_ne (ne_of_none hb hD2)]; exact hb) (by omega)⟩
            (fun j' H' _ e => SqL.of (e.1 _ _ hDa hDl)) (fun j' x Hb Hc hj' e y => ?_) (fun Hb e => ?_)⟩
          · obtain ⟨bb, hb2, pb⟩ := e
            obtain ⟨rfl, hx⟩ := y
            rw [List.length_map] at hj'
            rw [List.getElem?_map] at hx
            obtain ⟨u, hu, rfl⟩ := Option.map_eq_some_iff.mp hx
            obtain ⟨ms, f1, n2⟩ := hall7 u (List.mem_of_getElem? hu)
            have ul : u ≠ l := ne_of f1 hlx7 (by intro z; cases z)
            have et := bb _ _ (k9 _ _ e1 tl1 (by intro ps z; cases z)) tl1
            have eu := bb _ _ (k9 _ _ f1 ul (by intro ps z; cases z)) ul
            have nD2l : D2 ≠ l := (ne_of_none hlxa hD2).symm
            exact ⟨rfl, _, rfl, _, rfl, _, rfl, l, c, t, u, ns1, ms, _, rfl, pb, by omega, et, eu, n1, n2, fun Hd bd pd => ⟨_, rfl, iteF ⟨bb.trans bd, bd _ _ hb2 nD2l, pd.mono (Same.refl _) (by omega)⟩⟩⟩
          · obtain ⟨bb, hb2, pb⟩ := e
            rw [List.length_map] at pb
            refine ⟨by show 0 ≤ sizeLine; decide, fun Z hZ => ?_⟩
            have nZ : D2 ≠ Z := ne_of_none hb2 hZ
            have sZ : Same Hb (upd Hb Z (.lst [])) := fun b o hb => by
              rw [upd_ne (ne_of_none hb hZ)]
              exact hb
            refine ⟨.list [], .list [], .lst (SqL.of (sZ _ _ hb2)) .nil, .lst (SqL.of upd_same) .nil, by decide +kernel, by decide +kernel, _, rfl, ?_⟩
            rw [show (!PyData.eqv (.list []) (.list [])) = false from by decide +kernel]
            refine iteF ⟨⟨_, _, _, _, rfl⟩, fun b o h h1 h2 => sZ _ _ (bb _ _ (k9 _ _ h h1 h2) h1), fun pr hpr => ?_, pb.mono sZ (by omega)⟩
            obtain ⟨ps, x1, x2, x3⟩ := Ta pr hpr
            refine ⟨ps, sZ _ _ (bb _ _ x1 (ne_of x1 hlxa (by intro z; cases z))), x2, fun po cv hc => ?_⟩
            obtain ⟨cc, e1, e2⟩ := x3 po cv hc
            exact ⟨cc, e1, sZ _ _ (bb _ _ e2 (ne_of e2 hlxa (by intro z; cases z)))⟩
        · obtain ⟨⟨w2, w5, w6, w7, rfl⟩, k8, T8, p8⟩ := e
          have hal : (al.map V.ref).length ≤ 7 := by rw [List.length_map]; exact hcnt
          obtain ⟨lx8, hlx8⟩ := p8.lst
          refine ⟨_, rfl, _, rfl, l, c, m, pool, _, rfl, p8, by omega, PO7 H8 k8, hz, fun H10 b10 p10 => ⟨_, rfl, iteF ?_⟩⟩
          refine ⟨⟨_, _, _, _, _, _, rfl⟩, fun pr hpr => ?_, p10.mono (Same.refl _) (by omega)⟩
          obtain ⟨ps, x1, x2, x3⟩ := T8 pr hpr
          refine ⟨ps, b10 _ _ x1 (ne_of x1 hlx8 (by intro z; cases z)), x2, fun po cv hc => ?_⟩
          obtain ⟨cc, e1, e2⟩ := x3 po cv hc
          exact ⟨cc, e1, b10 _ _ e2 (ne_of e2 hlx8 (by intro z; cases z))⟩
    · exact q _
end
end Pl

namespace Pl
open PySem PySem.Spec PyProof.Rows L2 Own TL RZ LamX
theorem all_mk {l : PySem.W.OpenLaw} {w : World} {K : PySem.W.Frag} {h : Heap} {mg : Str → Option Value} {q : Program} {fa C fNam fPTx fPen fDrw fPck fNmd fMad fPai fHea fAlo fOrd fLaw fIni fRd pRd fNms pNms fTxt pTxt fAdd fStr fRep fEq fAhd CTE CB fIB c0Alo P0Alo : Addr} (X : K.In h) (G : h.Ns mainGlobals mg) (hfa : mg "law" = some (.ref fa)) (hT : TabsOf q K h) (hq : ((recsOf q).find? fun e => e.name == ("_law_alone_right" : Str)).isSome = true)
    {odNam anNam odPTx anPTx odPen anPen odDrw anDrw odPck anPck odNmd anNmd odMad anMad odPai anPai odHea anHea odAlo anAlo odOrd anOrd odLaw anLaw odIni anIni odRd anRd odNms anNms odTxt anTxt odAdd anAdd odStr anStr odRep anRep odEq anEq odAhd anAhd odIB anIB dc0Alo : Option Addr} {slNam slPTx slPen slDrw slPck slNmd slMad slPai slHea slAlo slOrd slLaw slIni slRd slNms slTxt slAdd slStr slRep slEq slAhd slIB scAlo : Array (Option Value)} {ocNam kVNam dcNam pmNam ctNam cdNam ocPTx kVPTx dcPTx pmPTx ctPTx cdPTx ocPen kVPen dcPen pmPen ctPen cdPen ocDrw kVDrw dcDrw pmDrw ctDrw cdDrw ocPck kVPck dcPck pmPck ctPck cdPck ocNmd kVNmd dcNmd pmNmd ctNmd cdNmd ocMad kVMad dcMad pmMad ctMad cdMad ocPai kVPai dcPai pmPai ctPai cdPai ocHea kVHea dcHea pmHea ctHea cdHea ocAlo kVAlo dcAlo pmAlo ctAlo ocOrd kVOrd dcOrd pmOrd ctOrd cdOrd ocLaw kVLaw dcLaw pmLaw ctLaw cdLaw ocIni kVIni dcIni pmIni ctIni cdIni ocRd kVRd dcRd pmRd ctRd cdRd ocNms kVNms dcNms pmNms ctNms cdNms ocTxt kVTxt dcTxt pmTxt ctTxt cdTxt ocAdd kVAdd dcAdd pmAdd ctAdd cdAdd ocStr kVStr dcStr pmStr ctStr cdStr ocRep kVRep dcRep pmRep ctRep cdRep ocEq kVEq dcEq pmEq ctEq cdEq ocAhd kVAhd dcAhd pmAhd ctAhd cdAhd ocIB kVIB dcIB pmIB ctIB cdIB ecAlo : Value} {rrRd rrNms rrTxt : List Value} {tM tL : Tok} {nmB qnB : Str} {NB : Addr} {bsB bmB sbB : List Value} {snB : List Str} {abB : Bool} {coB : Option Bool} {ddB : Option Addr} {u0B u1B u2B u3B u5B : Option Value} {vcAlo : Array Value}
    (aNam : PySem.W.nsIn K mainGlobals "is_name" = some (some (.ref fNam)))
    (lNam : K.lookup fNam = some ⟨ocNam, odNam, .func (PySem.W.fnOf "is_name" "is_name" (defArgs sIsName) (defBody sIsName) (defScope sIsName) .none kVNam dcNam pmNam anNam cdNam ctNam), slNam⟩)
    (cNam : PySem.W.codeIn K cdNam "is_name" = true)
    (kNam : PySem.W.keepIn K (.ref fNam) = true)
    (aPTx : PySem.W.nsIn K mainGlobals "is_place_text" = some (some (.ref fPTx)))
    (lPTx : K.lookup fPTx = some ⟨ocPTx, odPTx, .func (PySem.W.fnOf "is_place_text" "is_place_text" (defArgs sPText) (defBody sPText) (defScope sPText) .none kVPTx dcPTx pmPTx anPTx cdPTx ctPTx), slPTx⟩)
    (cPTx : PySem.W.codeIn K cdPTx "is_place_text" = true)
    (kPTx : PySem.W.keepIn K (.ref fPTx) = true)
    (aPen : PySem.W.nsIn K mainGlobals "_law_pen" = some (some (.ref fPen)))
    (lPen : K.lookup fPen = some ⟨ocPen, odPen, .func (PySem.W.fnOf "_law_pen" "_law_pen" (defArgs sPen) (defBody sPen) (defScope sPen) .none kVPen dcPen pmPen anPen cdPen ctPen), slPen⟩)
    (cPen : PySem.W.codeIn K cdPen "_law_pen" = true)
    (kPen : PySem.W.keepIn K (.ref fPen) = true)
    (aDrw : PySem.W.nsIn K mainGlobals "_law_draw" = some (some (.ref fDrw)))
    (lDrw : K.lookup fDrw = some ⟨ocDrw, odDrw, .func (PySem.W.fnOf "_law_draw" "_law_draw" (defArgs sDraw) (defBody sDraw) (defScope sDraw) .none kVDrw dcDrw pmDrw anDrw cdDrw ctDrw), slDrw⟩)
    (cDrw : PySem.W.codeIn K cdDrw "_law_draw" = true)
    (kDrw : PySem.W.keepIn K (.ref fDrw) = true)
    (aPck : PySem.W.nsIn K mainGlobals "_law_pick" = some (some (.ref fPck)))
    (lPck : K.lookup fPck = some ⟨ocPck, odPck, .func (PySem.W.fnOf "_law_pick" "_law_pick" (defArgs sPick) (defBody sPick) (defScope sPick) .none kVPck dcPck pmPck anPck cdPck ctPck), slPck⟩)
    (cPck : PySem.W.codeIn K cdPck "_law_pick" = true)
    (kPck : PySem.W.keepIn K (.ref fPck) = true)
    (aNmd : PySem.W.nsIn K mainGlobals "_law_names" = some (some (.ref fNmd)))
    (lNmd : K.lookup fNmd = some ⟨ocNmd, odNmd, .func (PySem.W.fnOf "_law_names" "_law_names" (defArgs sNms) (defBody sNms) (defScope sNms) .none kVNmd dcNmd pmNmd anNmd cdNmd ctNmd), slNmd⟩)
    (cNmd : PySem.W.codeIn K cdNmd "_law_names" = true)
    (kNmd : PySem.W.keepIn K (.ref fNmd) = true)
    (aMad : PySem.W.nsIn K mainGlobals "_law_made" = some (some (.ref fMad)))
    (lMad : K.lookup fMad = some ⟨ocMad, odMad, .func (PySem.W.fnOf "_law_made" "_law_made" (defArgs sMade) (defBody sMade) (defScope sMade) .none kVMad dcMad pmMad anMad cdMad ctMad), slMad⟩)
    (cMad : PySem.W.codeIn K cdMad "_law_made" = true)
    (kMad : PySem.W.keepIn K (.ref fMad) = true)
    (aPai : PySem.W.nsIn K mainGlobals "_law_pair_right" = some (some (.ref fPai)))
    (lPai : K.lookup fPai = some ⟨ocPai, odPai, .func (PySem.W.fnOf "_law_pair_right" "_law_pair_right" (defArgs sPair) (defBody sPair) (defScope sPair) .none kVPai dcPai pmPai anPai cdPai ctPai), slPai⟩)
    (cPai : PySem.W.codeIn K cdPai "_law_pair_right" = true)
    (kPai : PySem.W.keepIn K (.ref fPai) = true)
    (aHea : PySem.W.nsIn K mainGlobals "_law_heard" = some (some (.ref fHea)))
    (lHea : K.lookup fHea = some ⟨ocHea, odHea, .func (PySem.W.fnOf "_law_heard" "_law_heard" (defArgs sHeard) (defBody sHeard) (defScope sHeard) .none kVHea dcHea pmHea anHea cdHea ctHea), slHea⟩)
    (cHea : PySem.W.codeIn K cdHea "_law_heard" = true)
    (kHea : PySem.W.keepIn K (.ref fHea) = true)
    (aAlo : PySem.W.nsIn K mainGlobals "_law_alone_right" = some (some (.ref fAlo)))
    (lAlo : K.lookup fAlo = some ⟨ocAlo, odAlo, .func (PySem.W.fnOf "_law_alone_right" "_law_alone_right" (defArgs sAlone) (defBody sAlone) (defScope sAlone) .none kVAlo dcAlo pmAlo anAlo (.ref c0Alo) ctAlo), slAlo⟩)
    (cAlo : PySem.W.codeIn K (.ref c0Alo) "_law_alone_right" = true)
    (kAlo : PySem.W.keepIn K (.ref fAlo) = true)
    (aOrd : PySem.W.nsIn K mainGlobals "_law_order_right" = some (some (.ref fOrd)))
    (lOrd : K.lookup fOrd = some ⟨ocOrd, odOrd, .func (PySem.W.fnOf "_law_order_right" "_law_order_right" (defArgs sOrd) (defBody sOrd) (defScope sOrd) .none kVOrd dcOrd pmOrd anOrd cdOrd ctOrd), slOrd⟩)
    (cOrd : PySem.W.codeIn K cdOrd "_law_order_right" = true)
    (kOrd : PySem.W.keepIn K (.ref fOrd) = true)
    (aLaw : PySem.W.nsIn K mainGlobals "law" = some (some (.ref fLaw)))
    (lLaw : K.lookup fLaw = some ⟨ocLaw, odLaw, .func (PySem.W.fnOf "law" "law" (defArgs sLaw) (defBody sLaw) (defScope sLaw) .none kVLaw dcLaw pmLaw anLaw cdLaw ctLaw), slLaw⟩)
    (cLaw : PySem.W.codeIn K cdLaw "law" = true)
    (kLaw : PySem.W.keepIn K (.ref fLaw) = true)
    (lIni : K.lookup fIni = some ⟨ocIni, odIni, .func (PySem.W.fnOf "__init__" "Place.__init__" (defArgs sInit) (defBody sInit) (defScope sInit) .none kVIni dcIni pmIni anIni cdIni ctIni), slIni⟩)
    (cIni : PySem.W.codeIn K cdIni "Place.__init__" = true)
    (kIni : PySem.W.keepIn K (.ref fIni) = true)
    (aIni : PySem.W.findIn K (.ref C) "__init__" = some (some (.ref fIni)))
    (iIni : PySem.W.isFn K (.ref fIni) = true)
    (lRd : K.lookup fRd = some ⟨ocRd, odRd, .func (PySem.W.fnOf "read" "Place.read" (defArgs sRead) (defBody sRead) (defScope sRead) .none kVRd dcRd pmRd anRd cdRd ctRd), slRd⟩)
    (cRd : PySem.W.codeIn K cdRd "Place.read" = true)
    (kRd : PySem.W.keepIn K (.ref fRd) = true)
    (aRd : PySem.W.findCls K (.ref C) (.type "type") "read" = some (.get (.builtin "classmethod.__get__") (.ref pRd) .none (.ref C)))
    (rRd : PySem.W.recIn K pRd "classmethod" = some (.ref fRd :: rrRd))
    (iRd : PySem.W.fnIn K fRd = true)
    (lNms : K.lookup fNms = some ⟨ocNms, odNms, .func (PySem.W.fnOf "names" "Place.names" (defArgs sNames) (defBody sNames) (defScope sNames) .none kVNms dcNms pmNms anNms cdNms ctNms), slNms⟩)
    (cNms : PySem.W.codeIn K cdNms "Place.names" = true)
    (kNms : PySem.W.keepIn K (.ref fNms) = true)
    (aNms : PySem.W.findIn K (.ref C) "names" = some (some (.ref pNms)))
    (gNms : PySem.W.specialIn K (.ref pNms) "__get__" = some (some (.builtin "property.__get__")))
    (tNms : PySem.W.takesIn K (.ref pNms) = some true)
    (rNms : PySem.W.recIn K pNms "property" = some (.ref fNms :: rrNms))
    (lTxt : K.lookup fTxt = some ⟨ocTxt, odTxt, .func (PySem.W.fnOf "text" "Place.text" (defArgs sText) (defBody sText) (defScope sText) .none kVTxt dcTxt pmTxt anTxt cdTxt ctTxt), slTxt⟩)
    (cTxt : PySem.W.codeIn K cdTxt "Place.text" = true)
    (kTxt : PySem.W.keepIn K (.ref fTxt) = true)
    (aTxt : PySem.W.findIn K (.ref C) "text" = some (some (.ref pTxt)))
    (gTxt : PySem.W.specialIn K (.ref pTxt) "__get__" = some (some (.builtin "property.__get__")))
    (tTxt : PySem.W.takesIn K (.ref pTxt) = some true)
    (rTxt : PySem.W.recIn K pTxt "property" = some (.ref fTxt :: rrTxt))
    (lAdd : K.lookup fAdd = some ⟨ocAdd, odAdd, .func (PySem.W.fnOf "__add__" "Place.__add__" (defArgs sAdd) (defBody sAdd) (defScope sAdd) .none kVAdd dcAdd pmAdd anAdd cdAdd ctAdd), slAdd⟩)
    (cAdd : PySem.W.codeIn K cdAdd "Place.__add__" = true)
    (kAdd : PySem.W.keepIn K (.ref fAdd) = true)
    (aAdd : PySem.W.findIn K (.ref C) "__add__" = some (some (.ref fAdd)))
    (iAdd : PySem.W.isFn K (.ref fAdd) = true)
    (lStr : K.lookup fStr = some ⟨ocStr, odStr, .func (PySem.W.fnOf "__str__" "Place.__str__" (defArgs sStr) (defBody sStr) (defScope sStr) .none kVStr dcStr pmStr anStr cdStr ctStr), slStr⟩)
    (cStr : PySem.W.codeIn K cdStr "Place.__str__" = true)
    (kStr : PySem.W.keepIn K (.ref fStr) = true)
    (aStr : PySem.W.findIn K (.ref C) "__str__" = some (some (.ref fStr)))
    (iStr : PySem.W.isFn K (.ref fStr) = true)
    (lRep : K.lookup fRep = some ⟨ocRep, odRep, .func (PySem.W.fnOf "__repr__" "Place.__repr__" (defArgs sRepr) (defBody sRepr) (defScope sRepr) .none kVRep dcRep pmRep anRep cdRep ctRep), slRep⟩)
    (cRep : PySem.W.codeIn K cdRep "Place.__repr__" = true)
    (kRep : PySem.W.keepIn K (.ref fRep) = true)
    (aRep : PySem.W.findIn K (.ref C) "__repr__" = some (some (.ref fRep)))
    (iRep : PySem.W.isFn K (.ref fRep) = true)
    (lEq : K.lookup fEq = some ⟨ocEq, odEq, .func (PySem.W.fnOf "__eq__" "Place.__eq__" (defArgs sEq) (defBody sEq) (defScope sEq) .none kVEq dcEq pmEq anEq cdEq ctEq), slEq⟩)
    (cEq : PySem.W.codeIn K cdEq "Place.__eq__" = true)
    (kEq : PySem.W.keepIn K (.ref fEq) = true)
    (aEq : PySem.W.findIn K (.ref C) "__eq__" = some (some (.ref fEq)))
    (iEq : PySem.W.isFn K (.ref fEq) = true)
    (lAhd : K.lookup fAhd = some ⟨ocAhd, odAhd, .func (PySem.W.fnOf "is_ahead" "Place.is_ahead" (defArgs sAhead) (defBody sAhead) (defScope sAhead) .none kVAhd dcAhd pmAhd anAhd cdAhd ctAhd), slAhd⟩)
    (cAhd : PySem.W.codeIn K cdAhd "Place.is_ahead" = true)
    (kAhd : PySem.W.keepIn K (.ref fAhd) = true)
    (aAhd : PySem.W.findIn K (.ref C) "is_ahead" = some (some (.ref fAhd)))
    (iAhd : PySem.W.isFn K (.ref fAhd) = true)
    (aC : PySem.W.nsIn K mainGlobals "Place" = some (some (.ref C)))
    (pg : PySem.W.plainGet K C Str.empty = true)
    (hd : PySem.W.hasDictIn K C = true)
    (po : PySem.W.plainOver K C = true)
    (sa : PySem.W.findIn K (.ref C) "__setattr__" = some (some (.builtin "object.__setattr__")))
    (mk : PySem.W.makesIn K C = true)
    (kc : PySem.W.keepIn K (.ref C) = true)
    (nN : PySem.W.findIn K (.ref C) "_names" = some none)
    (rd : PySem.W.readsIn K C (.type "type") = true)
    (ga : PySem.W.specialIn K (.ref C) "__getattribute__" = some (some (.builtin "type.__getattribute__")))
    (mo : PySem.W.findCls K (.ref C) (.type "type") "MOST" = some (.val (.int 8 tM)))
    (mi : PySem.W.findIn K (.ref C) "MOST" = some (some (.int 8 tM)))
    (ms : PySem.W.specialIn K (.int 8 tM) "__get__" = some none)
    (ha : PySem.W.findIn K (.ref C) "__class__" = some (some (.builtin "object.__class__")))
    (hn : PySem.W.specialIn K (.builtin "object.__class__") "__get__" = some (some (.builtin "getset_descriptor.__get__")))
    (htk : PySem.W.takesIn K (.builtin "object.__class__") = some true)
    (hm : PySem.W.mroIn K C (.type "object") = some true)
    (ty : PySem.W.typeIn K (.ref C) = some (.type "type"))
    (mC : PySem.W.mroIn K C (.ref C) = some true)
    (mS : PySem.W.mroIn K C (.type "str") = some false)
    (sf : PySem.W.selfFirst K C = true)
    (nE : PySem.W.findIn K (.ref C) "__ne__" = some (some (.builtin "object.__ne__")))
    (sub : PySem.W.subIn K (.ref C) (.type "object") = some true)
    (lg : PySem.W.nsIn K mainGlobals "LONGEST_NAME" = some (some (.int 8 tL)))
    (bno : PySem.W.subIn K (.ref C) (.type "NoneType") = some false)
    (bin : PySem.W.subIn K (.ref C) (.type "int") = some false)
    (bbl : PySem.W.subIn K (.ref C) (.type "bool") = some false)
    (bst : PySem.W.subIn K (.ref C) (.type "str") = some false)
    (bls : PySem.W.subIn K (.ref C) (.type "list") = some false)
    (btu : PySem.W.subIn K (.ref C) (.type "tuple") = some false)
    (bdi : PySem.W.subIn K (.ref C) (.type "dict") = some false)
    (aCT : PySem.W.nsIn K mainGlobals "TableError" = some (some (.ref CTE)))
    (sCT : PySem.W.subIn K (.ref CTE) (.type "BaseException") = some true)
    (dCT : PySem.W.hasDictIn K CTE = true)
    (tCT : PySem.W.typeIn K (.ref CTE) = some (.type "type"))
    (aCB : PySem.W.nsIn K mainGlobals "BadPlace" = some (some (.ref CB)))
    (lIB : K.lookup fIB = some ⟨ocIB, odIB, .func (PySem.W.fnOf "__init__" "BadPlace.__init__" (defArgs sIniP) (defBody sIniP) (defScope sIniP) .none kVIB dcIB pmIB anIB cdIB ctIB), slIB⟩)
    (cIB : PySem.W.codeIn K cdIB "BadPlace.__init__" = true)
    (kIB : PySem.W.keepIn K (.ref fIB) = true)
    (aIB : PySem.W.findIn K (.ref CB) "__init__" = some (some (.ref fIB)))
    (tIB : PySem.W.typeIn K (.ref fIB) = some (.type "function"))
    (oB : K.lookup CB = some (excClassObj nmB qnB CB NB bsB bmB true snB sbB abB coB ddB u0B u1B u2B u3B u5B "ValueError.__new__"))
    (vB : PySem.HandSPX.refsVE bmB = true)
    (saB : PySem.W.findIn K (.ref CB) "__setattr__" = some (some (.builtin "object.__setattr__")))
    (sxB : PySem.W.subIn K (.ref CB) (.type "BaseException") = some true)
    (tyB : PySem.W.typeIn K (.ref CB) = some (.type "type"))
    (kcB : PySem.W.keepIn K (.ref CB) = true)
    (nfB : PySem.W.findIn K (.ref CB) "value" = some none)
    (gaB : PySem.W.findIn K (.ref CB) "__getattribute__" = some (some (.builtin "BaseException.__getattribute__")))
    (ggB : PySem.W.findIn K (.ref CB) "__getattr__" = some none)
    (hdB : PySem.W.hasDictIn K CB = true)
    (haB : PySem.W.findIn K (.ref CB) "__class__" = some (some (.builtin "object.__class__")))
    (moB : PySem.W.mroIn K CB (.type "object") = some true)
    (mmB : PySem.W.mroIn K CB (.ref CB) = some true)
    (stB : PySem.W.subIn K (.ref CB) (.ref CTE) = some true)
    (lcAlo : K.lookup c0Alo = some ⟨ecAlo, dc0Alo, .fields vcAlo, scAlo⟩)
    (tbAlo : vcAlo[11]? = some (.ref P0Alo))
    (tnAlo : K.lookup P0Alo = none)
    (z_isinstance : PySem.W.nsIn K mainGlobals "isinstance" = some none)
    (z_int : PySem.W.nsIn K mainGlobals "int" = some none)
    (z_bool : PySem.W.nsIn K mainGlobals "bool" = some none)
    (z_str : PySem.W.nsIn K mainGlobals "str" = some none)
    (z_len : PySem.W.nsIn K mainGlobals "len" = some none)
    (z_all : PySem.W.nsIn K mainGlobals "all" = some none)
    (z_zip : PySem.W.nsIn K mainGlobals "zip" = some none)
    (z_range : PySem.W.nsIn K mainGlobals "range" = some none)
    (z_enumerate : PySem.W.nsIn K mainGlobals "enumerate" = some none)
    (z_list : PySem.W.nsIn K mainGlobals "list" = some none)
    (z_abs : PySem.W.nsIn K mainGlobals "abs" = some none)
    (z_repr : PySem.W.nsIn K mainGlobals "repr" = some none)
    (z_tuple : PySem.W.nsIn K mainGlobals "tuple" = some none)
    : LawG l w K 11 63 mg fa h := by
  have e := hfa.symm.trans (PySem.W.mg_of X G aLaw)
  cases e
  have FNam := fun_mk (st := sIsName) lNam cNam kNam
  have mNam := PySem.W.mg_of X G aNam
  have bNam := FNam.binds (ps := ["value"]) fun _ _ _ _ _ _ us hl => match us, hl with | [_], _ => rfl
  have FPTx := fun_mk (st := sPText) lPTx cPTx kPTx
  have mPTx := PySem.W.mg_of X G aPTx
  have bPTx := FPTx.binds (ps := ["value"]) fun _ _ _ _ _ _ us hl => match us, hl with | [_], _ => rfl
  have FPen := fun_mk (st := sPen) lPen cPen kPen
  have mPen := PySem.W.mg_of X G aPen
  have bPen := FPen.binds (ps := ["_law_script"]) fun _ _ _ _ _ _ us hl => match us, hl with | [_], _ => rfl
  have FDrw := fun_mk (st := sDraw) lDrw cDrw kDrw
  have mDrw := PySem.W.mg_of X G aDrw
  have bDrw := FDrw.binds (ps := ["_law_pen_here", "_law_many"]) fun _ _ _ _ _ _ us hl => match us, hl with | [_, _], _ => rfl
  have FPck := fun_mk (st := sPick) lPck cPck kPck
  have mPck := PySem.W.mg_of X G aPck
  have bPck := FPck.binds (ps := ["_law_pen_here", "_law_some"]) fun _ _ _ _ _ _ us hl => match us, hl with | [_, _], _ => rfl
  have FNmd := fun_mk (st := sNms) lNmd cNmd kNmd
  have mNmd := PySem.W.mg_of X G aNmd
  have bNmd := FNmd.binds (ps := ["_law_pen_here", "_law_pool"]) fun _ _ _ _ _ _ us hl => match us, hl with | [_, _], _ => rfl
  have FMad := fun_mk (st := sMade) lMad cMad kMad
  have mMad := PySem.W.mg_of X G aMad
  have bMad := FMad.binds (ps := ["_law_pen_here", "_law_some"]) fun _ _ _ _ _ _ us hl => match us, hl with | [_, _], _ => rfl
  have FPai := fun_mk (st := sPair) lPai cPai kPai
  have mPai := PySem.W.mg_of X G aPai
  have bPai := FPai.binds (ps := ["_law_pen_here", "_law_one", "_law_other"]) fun _ _ _ _ _ _ us hl => match us, hl with | [_, _, _], _ => rfl
  have FHea := fun_mk (st := sHeard) lHea cHea kHea
  have mHea := PySem.W.mg_of X G aHea
  have bHea := FHea.binds (ps := ["_law_ask"]) fun _ _ _ _ _ _ us hl => match us, hl with | [_], _ => rfl
  have FAlo := fun_mk (st := sAlone) lAlo cAlo kAlo
  have mAlo := PySem.W.mg_of X G aAlo
  have bAlo := FAlo.binds (ps := ["_law_pen_here", "_law_some"]) fun _ _ _ _ _ _ us hl => match us, hl with | [_, _], _ => rfl
  have FOrd := fun_mk (st := sOrd) lOrd cOrd kOrd
  have mOrd := PySem.W.mg_of X G aOrd
  have bOrd := FOrd.binds (ps := ["_law_pen_here", "_law_pool"]) fun _ _ _ _ _ _ us hl => match us, hl with | [_, _], _ => rfl
  have FLaw := fun_mk (st := sLaw) lLaw cLaw kLaw
  have mLaw := PySem.W.mg_of X G aLaw
  have bLaw := FLaw.binds (ps := ["_law_script"]) fun _ _ _ _ _ _ us hl => match us, hl with | [_], _ => rfl
  have FIni := fun_mk (st := sInit) lIni cIni kIni
  have FRd := fun_mk (st := sRead) lRd cRd kRd
  have bRd := FRd.binds (ps := ["cls", "text"]) fun _ _ _ _ _ _ us hl => match us, hl with | [_, _], _ => rfl
  have MRd : ClX.CMet K C (.type "type") "read" pRd fRd := ⟨aRd, ⟨_, rRd⟩, iRd⟩
  have FNms := fun_mk (st := sNames) lNms cNms kNms
  have bNms := FNms.binds (ps := ["self"]) fun _ _ _ _ _ _ us hl => match us, hl with | [_], _ => rfl
  have MNms : PropOf K C "names" pNms fNms := ⟨aNms, gNms, tNms, ⟨_, rNms⟩⟩
  have FTxt := fun_mk (st := sText) lTxt cTxt kTxt
  have bTxt := FTxt.binds (ps := ["self"]) fun _ _ _ _ _ _ us hl => match us, hl with | [_], _ => rfl
  have MTxt : PropOf K C "text" pTxt fTxt := ⟨aTxt, gTxt, tTxt, ⟨_, rTxt⟩⟩
  have FAdd := fun_mk (st := sAdd) lAdd cAdd kAdd
  have bAdd := FAdd.binds (ps := ["self", "other"]) fun _ _ _ _ _ _ us hl => match us, hl with | [_, _], _ => rfl
  have MAdd : Meth K C "__add__" fAdd := ⟨aAdd, iAdd, kAdd⟩
  have FStr := fun_mk (st := sStr) lStr cStr kStr
  have bStr := FStr.binds (ps := ["self"]) fun _ _ _ _ _ _ us hl => match us, hl with | [_], _ => rfl
  have MStr : Meth K C "__str__" fStr := ⟨aStr, iStr, kStr⟩
  have FRep := fun_mk (st := sRepr) lRep cRep kRep
  have bRep := FRep.binds (ps := ["self"]) fun _ _ _ _ _ _ us hl => match us, hl with | [_], _ => rfl
  have MRep : Meth K C "__repr__" fRep := ⟨aRep, iRep, kRep⟩
  have FEq := fun_mk (st := sEq) lEq cEq kEq
  have bEq := FEq.binds (ps := ["self", "other"]) fun _ _ _ _ _ _ us hl => match us, hl with | [_, _], _ => rfl
  have MEq : Meth K C "__eq__" fEq := ⟨aEq, iEq, kEq⟩
  have FAhd := fun_mk (st := sAhead) lAhd cAhd kAhd
  have bAhd := FAhd.binds (ps := ["self", "b"]) fun _ _ _ _ _ _ us hl => match us, hl with | [_, _], _ => rfl
  have MAhd : Meth K C "is_ahead" fAhd := ⟨aAhd, iAhd, kAhd⟩
  have FIB := fun_mk (st := sIniP) lIB cIB kIB
  have bIB := FIB.binds (ps := ["self", "value"]) fun _ _ _ _ _ _ us hl => match us, hl with | [_, _], _ => rfl
  have EB : Er K mg "BadPlace" "BadPlace.__init__" "value" sIniP CB fIB _ := ⟨⟨⟨nmB, qnB, NB, bsB, bmB, snB, sbB, abB, coB, ddB, u0B, u1B, u2B, u3B, u5B, oB, vB⟩, saB, sxB, tyB, kcB⟩, PySem.W.mg_of X G aCB, aIB, tIB, FIB, bIB, nfB, ⟨gaB, ggB, sxB, hdB⟩⟩
  have XCB : ExcC K CB := ⟨gaB, ggB, sxB, hdB, haB, hn, htk, moB⟩
  have XTB : PySem.W.exmOne K (.ref CB) (.ref CTE) = some true := PySem.W.exm_ref sCT dCT tCT stB
  have XSB : PySem.W.kitOne K (.ref CB) (.ref CB) = some true := kit_self tyB mmB
  have t0Alo := tabIn_of aAlo lAlo rfl lcAlo tbAlo
  have T : BT mg := ⟨PySem.W.mg_none_of X G z_isinstance, PySem.W.mg_none_of X G z_int, PySem.W.mg_none_of X G z_bool, PySem.W.mg_none_of X G z_str, PySem.W.mg_none_of X G z_len, PySem.W.mg_none_of X G z_all, PySem.W.mg_none_of X G z_zip, PySem.W.mg_none_of X G z_range, PySem.W.mg_none_of X G z_enumerate, PySem.W.mg_none_of X G z_list, PySem.W.mg_none_of X G z_abs⟩
  have TG : GT mg := ⟨T, ⟨_, PySem.W.mg_of X G lg⟩⟩
  have U : CT K mg C (.type "type") := ⟨⟨pg, hd, po, sa⟩, nN, PySem.W.mg_of X G aC, ⟨rd, ga⟩, ⟨_, mo, ⟨_, rfl⟩⟩, ⟨_, mi, ⟨_, rfl⟩, ms, by decide +kernel⟩, ha, hn, htk, hm, kit_tyC ty hm rfl, kit_self ty mC, kit_Cty (by decide +kernel) mS⟩
  have MM : Mk K C fIni := ⟨mk, aIni, iIni, kc⟩
  have RR : ErF K mg CB CTE := ⟨PySem.W.mg_of X G aCT, PySem.W.mg_of X G aCB, XTB, XSB, XCB, ⟨gaB, ggB, sxB, hdB⟩, nfB⟩
  have NB : NotB K C := ⟨bno, bin, bbl, bst, bls, btu, bdi⟩
  obtain ⟨CH, hP0⟩ := hT "_law_alone_right" c0Alo P0Alo hq t0Alo
  refine ⟨[(c0Alo, P0Alo)], spLaw K [(P0Alo, qAl)], fun p hp => ?_, fun H a ns hl hT2 hS => ⟨a, ns, rfl, hS, hl, fun p hp => ?_, fun _ => rfl⟩, fun base _ _ hTB => ?_⟩
  · rw [List.mem_singleton.mp hp]
    exact ⟨hP0, tnAlo, CH⟩
  · rw [List.mem_singleton.mp hp]
    exact TabS.nil (hT2 _ (List.mem_singleton.mpr rfl))
  have GMk : FnR l.prog w K mg base CX0 2 fIni (spMk C) := ok_init FIni TG U FNam bNam mNam
  have GNms : FnOk l.prog w K mg base CX0 1 fNms _ ["self"] (spNames C) := ok_names FNms U
  have GTxt : FnOk l.prog w K mg base CX0 1 fTxt _ ["self"] (spText C) := ok_text FTxt U
  have GEq : FnOk l.prog w K mg base CX0 1 fEq _ ["self", "other"] (spEq C) := ok_eq FEq T U
  have GEqF : FnOk l.prog w K mg base CX0 1 fEq _ ["self", "other"] (spEqF K C) := ok_eqF FEq T U
  have GAdd : FnOk l.prog w K mg base CX0 4 fAdd _ ["self", "other"] (spAdd C) := ok_add FAdd U MM GMk
  have GPTx : FnOk l.prog w K mg base CX0 2 fPTx _ ["value"] (spPText K) := ok_ptext FPTx TG U FNam bNam mNam
  have GRd : FnOk l.prog w K mg base CX0 4 fRd _ ["cls", "text"] (spRead C) := ok_read FRd TG U GPTx kPTx bPTx mPTx MM GMk
  have GAhd : FnOk l.prog w K mg base CX0 3 fAhd _ ["self", "b"] (spAhead C) := ok_ahead FAhd T U FNms bNms MNms
  have GAhF : FnOk l.prog w K mg base (L2.CX l.prog w) 3 fAhd _ ["self", "b"] (spAheadF K C CB) := ok_aheadF FAhd T U EB
  have GStr : FnOk l.prog w K mg base CX0 3 fStr _ ["self"] (spStr C) := ok_strP FStr U GTxt bTxt MTxt
  have GRep : FnOk l.prog w K mg base CX0 3 fRep _ ["self"] (spRepr C) := ok_reprP FRep U GTxt bTxt MTxt
  have GDrw : FnOk l.prog w K mg base CX0 1 fDrw _ ["_law_pen_here", "_law_many"] spDraw := ok_draw FDrw T
  have GPck : FnOk l.prog w K mg base CX0 2 fPck _ ["_law_pen_here", "_law_some"] spPick := ok_pick FPck T FDrw bDrw mDrw
  have GPen : FnOk l.prog w K mg base CX0 1 fPen _ ["_law_script"] (spPen K) := ok_pen FPen T
  have W : Wo l.prog w K mg base ⟨C, CB, CTE, fAdd, fEq, fStr, fRep, fAhd, fNms, pNms, fTxt, pTxt, fRd, pRd, fIni, fDrw, fPck, fPen, .type "type", _, _, _, _, _, _⟩ :=
    ⟨TG, PySem.W.mg_none_of X G z_repr, PySem.W.mg_none_of X G z_tuple, U, RR, sf, nE, sub, MAdd, fnR_of GAdd bAdd, MEq, fnR_of GEq bEq, fnR_of GEqF bEq, MStr, fnR_of GStr bStr, MRep, fnR_of GRep bRep, MAhd, GAhd, GAhF, bAhd,
      fun s u v _ => .of_eq rfl, MNms, GNms, bNms, MTxt, GTxt, bTxt, MRd, fnR_of GRd bRd, MM, GMk, mDrw, kDrw, GDrw, bDrw, mPck, kPck, GPck, bPck, mPen, kPen, GPen, bPen⟩
  have GNmd := ok_nms W FNmd
  have GMad := ok_made W FMad
  have GPai := gPair W FPai bPai GMad mMad kMad bMad
  have GOrd := ok_ord W FOrd GMad mMad kMad bMad GNmd mNmd kNmd bNmd
  have GAlo := gAlone W NB ty lAlo cAlo bAlo GMad mMad kMad bMad mHea kHea lHea cHea bHea (hTB _ (List.mem_singleton.mpr rfl)) (List.mem_singleton.mpr rfl) (fun p hp _ => by rw [List.mem_singleton.mp hp])
  exact gLaw W FLaw bLaw GNmd mNmd kNmd bNmd GAlo mAlo kAlo GPai mPai kPai GOrd mOrd kOrd bOrd
theorem walk {l : PySem.W.OpenLaw} {q : Program} {loose : List Str} {XP : (Str → Option Value) → Heap → Prop} {YP : World → Heap → Prop} {d : DefRec} {K : Params → PySem.W.Frag} (hn : l.most = some 63) (hdf : d.params.defaults = [])
    (hY : ∀ (w : World) (h : Heap), YP w h → (K w.params).In h)
    (F : ∀ (w : World) (mg : Str → Option Value) (fa : Addr) (h : Heap), (K w.params).In h → h.Ns mainGlobals mg → mg d.name = some (.ref fa) → TabsOf q (K w.params) h → LawG l w (K w.params) 11 63 mg fa h) :
    PySem.W.WalkO q loose XP YP l.row.toRowW d [] (fun f vs => PySem.call f vs) :=
  walk_G hn (by decide) hdf ⟨rfl, by decide, by decide⟩ hY F
end Pl

open PySem PySem.W PyProof.Rows
set_option maxRecDepth 100000 in
set_option maxHeartbeats 0 in
theorem PySem.Challenge.cw_nearestsays_k04_places_ordered_holds : PySem.Challenge.rw_nearestsays_k04_places_ordered.Holds := by
  w_on; o_law; k_head; (case hw => w_witness2)
  k_fill
  refine Pl.walk (l := PySem.Challenge.rw_nearestsays_k04_places_ordered) rfl rfl (fun w h Y => PySem.W.km_in_of Y) ?F
  case F =>
    intro w mg fa h KX G hmg hT
    refine' Pl.all_mk KX G hmg hT (by decide +kernel) ?aNam ?lNam ?cNam ?kNam ?aPTx ?lPTx ?cPTx ?kPTx ?aPen ?lPen ?cPen ?kPen ?aDrw ?lDrw ?cDrw ?kDrw ?aPck ?lPck ?cPck ?kPck ?aNmd ?lNmd ?cNmd ?kNmd ?aMad ?lMad ?cMad ?kMad ?aPai ?lPai ?cPai ?kPai ?aHea ?lHea ?cHea ?kHea ?aAlo ?lAlo ?cAlo ?kAlo ?aOrd ?lOrd ?cOrd ?kOrd ?aLaw ?lLaw ?cLaw ?kLaw ?lIni ?cIni ?kIni ?aIni ?iIni ?lRd ?cRd ?kRd ?aRd ?rRd ?iRd ?lNms ?cNms ?kNms ?aNms ?gNms ?tNms ?rNms ?lTxt ?cTxt ?kTxt ?aTxt ?gTxt ?tTxt ?rTxt ?lAdd ?cAdd ?kAdd ?aAdd ?iAdd ?lStr ?cStr ?kStr ?aStr ?iStr ?lRep ?cRep ?kRep ?aRep ?iRep ?lEq ?cEq ?kEq ?aEq ?iEq ?lAhd ?cAhd ?kAhd ?aAhd ?iAhd ?aC ?pg ?hd ?po ?sa ?mk ?kc ?nN ?rd ?ga ?mo ?mi ?ms ?ha ?hn ?htk ?hm ?ty ?mC ?mS ?sf ?nE ?sub ?lg ?bno ?bin ?bbl ?bst ?bls ?btu ?bdi ?aCT ?sCT ?dCT ?tCT ?aCB ?lIB ?cIB ?kIB ?aIB ?tIB ?oB ?vB ?saB ?sxB ?tyB ?kcB ?nfB ?gaB ?ggB ?hdB ?haB ?moB ?mmB ?stB ?lcAlo ?tbAlo ?tnAlo ?z_isinstance ?z_int ?z_bool ?z_str ?z_len ?z_all ?z_zip ?z_range ?z_enumerate ?z_list ?z_abs ?z_repr ?z_tuple
    (case aC => k_is); (case aCT => k_is); (case aCB => k_is); (case aNam => k_is); (case aPTx => k_is); (case aPen => k_is); (case aDrw => k_is); (case aPck => k_is)
    (case aNmd => k_is); (case aMad => k_is); (case aPai => k_is); (case aHea => k_is); (case aAlo => k_is); (case aOrd => k_is); (case aLaw => k_is); (case aIni => k_is)
    (case aRd => k_is); (case aNms => k_is); (case aTxt => k_is); (case aAdd => k_is); (case aStr => k_is); (case aRep => k_is); (case aEq => k_is); (case aAhd => k_is)
    (case aIB => k_is); (case rRd => k_is); (case rNms => k_is); (case rTxt => k_is); (case mo => k_is); (case lg => k_is); (case lNam => k_is)
    (case lPTx => k_is); (case lPen => k_is); (case lDrw => k_is); (case lPck => k_is); (case lNmd => k_is); (case lMad => k_is); (case lPai => k_is); (case lHea => k_is)
    (case lAlo => k_is); (case lOrd => k_is); (case lLaw => k_is); (case lIni => k_is); (case lRd => k_is); (case lNms => k_is); (case lTxt => k_is); (case lAdd => k_is)
    (case lStr => k_is); (case lRep => k_is); (case lEq => k_is); (case lAhd => k_is); (case lIB => k_is); (case oB => k_is); (case lcAlo => k_is); (case tbAlo => rfl)
    (case cNam => k_is); (case kNam => k_is); (case cPTx => k_is); (case kPTx => k_is); (case cPen => k_is); (case kPen => k_is); (case cDrw => k_is); (case kDrw => k_is)
    (case cPck => k_is); (case kPck => k_is); (case cNmd => k_is); (case kNmd => k_is); (case cMad => k_is); (case kMad => k_is); (case cPai => k_is); (case kPai => k_is)
    (case cHea => k_is); (case kHea => k_is); (case cAlo => k_is); (case kAlo => k_is); (case cOrd => k_is); (case kOrd => k_is); (case cLaw => k_is); (case kLaw => k_is)
    (case cIni => k_is); (case kIni => k_is); (case iIni => k_is); (case cRd => k_is); (case kRd => k_is); (case iRd => k_is); (case cNms => k_is); (case kNms => k_is)
    (case gNms => k_is); (case tNms => k_is); (case cTxt => k_is); (case kTxt => k_is); (case gTxt => k_is); (case tTxt => k_is); (case cAdd => k_is); (case kAdd => k_is)
    (case iAdd => k_is); (case cStr => k_is); (case kStr => k_is); (case iStr => k_is); (case cRep => k_is); (case kRep => k_is); (case iRep => k_is); (case cEq => k_is)
    (case kEq => k_is); (case iEq => k_is); (case cAhd => k_is); (case kAhd => k_is); (case iAhd => k_is); (case pg => k_is); (case hd => k_is); (case po => k_is)
    (case sa => k_is); (case mk => k_is); (case kc => k_is); (case nN => k_is); (case rd => k_is); (case ga => k_is); (case mi => k_is); (case ms => k_is)
    (case ha => k_is); (case hn => k_is); (case htk => k_is); (case hm => k_is); (case ty => k_is); (case mC => k_is); (case mS => k_is); (case sf => k_is)
    (case nE => k_is); (case sub => k_is); (case bno => k_is); (case bin => k_is); (case bbl => k_is); (case bst => k_is); (case bls => k_is); (case btu => k_is)
    (case bdi => k_is); (case sCT => k_is); (case dCT => k_is); (case tCT => k_is); (case cIB => k_is); (case kIB => k_is); (case tIB => k_is); (case vB => decide +kernel)
    (case saB => k_is); (case sxB => k_is); (case tyB => k_is); (case kcB => k_is); (case nfB => k_is); (case gaB => k_is); (case ggB => k_is); (case hdB => k_is)
    (case haB => k_is); (case moB => k_is); (case mmB => k_is); (case stB => k_is); (case tnAlo => rfl); (case z_isinstance => k_is); (case z_int => k_is); (case z_bool => k_is)
    (case z_str => k_is); (case z_len => k_is); (case z_all => k_is); (case z_zip => k_is); (case z_range => k_is); (case z_enumerate => k_is); (case z_list => k_is); (case z_abs => k_is)
    (case z_repr => k_is); (case z_tuple => k_is)
