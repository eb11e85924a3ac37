import PyProof.Rows.All
import Wide.All
import OpenK.AllK
import Wide.FinOn
import HandS.ForMost
import HandS.Star
import HandS.Property
import HandS.ClsMeth
import HandS.SlotsOwn
import HandS.More
import HandS.IsInst
import HandS.Zip
import HandS.TupAny
import HandS.SetFor
import HandS.OwnEq
import HandS.Small
import HandS.Walk
import HandS.StrMore
import HandS.Codes
import HandS.Style
import PySem.Challenge.RW_nearestsays_k05_whole_places_meet
set_option Elab.async false
set_option maxRecDepth 100000
set_option maxHeartbeats 4000000
namespace Own
open PySem PySem.Spec PyProof.Rows L2
section
variable {X : Cx} {CX : CXT} {C g : Addr} {n : Nat} {sp : Sp} {E : XK}
theorem inst_of {pins : List (Addr × Obj)} {σ : L2.St} {H : Hp} {s : Shared} {a dx : Addr} {fs : List (Str × V)} (I : Inv X pins σ H s) (ea : H a = some (.ins C dx fs)) :
    ∃ od, PySem.W.InstAt s.heap a (PySem.W.instObj C dx) C (some od) := by
  obtain ⟨mA, O, _⟩ := ins_get I.hok ea
  obtain ⟨od, J, _⟩ := O.look
  exact ⟨od, J⟩
/-- a op b, both instances of C -/
theorem op_bin {op : Operator} (hc : PySem.W.selfFirst X.K C = true) (hs : PySem.W.findIn X.K (.ref C) (PySem.dunder op.info.2) = some (some (.ref g))) (hf : PySem.W.isFn X.K (.ref g) = true)
    (F : FnR X.prog X.w X.K X.mg X.base CX n g sp) (hr : Room n X.A) (hx : Passes CX X E) :
    OpR X (binaryOp op) (fun x y H Q => ∃ a b dx fs dy gs, x = .ref a ∧ y = .ref b ∧ H a = some (.ins C dx fs) ∧ H b = some (.ins C dy gs) ∧ sp [.ref a, .ref b] H Q E) := by
  intro pins s σ H x y v u Q I rx ry h
  obtain ⟨a, b, dx, fs, dy, gs, rfl, rfl, ha, hb, q⟩ := h
  cases (show v = Value.ref a from rx)
  cases (show u = Value.ref b from ry)
  obtain ⟨od, J⟩ := inst_of I ha
  obtain ⟨od', J'⟩ := inst_of I hb
  obtain ⟨m, hF⟩ := I.fr
  refine PySem.W.binop_K (op := op) hF I.ok.mod.kin J J'.type hc hs hf ?_
  refine wpAny_mono (wpAny_call (run_fnR (us := [.ref a, .ref b]) (vs := [.ref a, .ref b]) F hr hx I (.cons rfl (.cons rfl .nil)) q)) (fun w s' z => ?_) fun _ _ x => x
  obtain ⟨z', H', I', rz, qz⟩ := z
  exact SlX.cmpback rz ⟨z', H', I', rz, qz⟩
/-- the call of the def at g with values -/
theorem run_g {pins : List (Addr × Obj)} {σ : L2.St} {H : Hp} {s : Shared} {Q : VK} {us : List Value} {vs : List V} (F : FnR X.prog X.w X.K X.mg X.base CX n g sp) (hr : Room n X.A) (hx : Passes CX X E)
    (I : Inv X pins σ H s) (r : Vals vs us) (q : sp vs H Q E) : wpAny (model X.prog X.w) X.A (call (.ref g) us) (EP X pins σ Q) X.xe s :=
  wpAny_call (run_fnR F hr hx I r q)
theorem run_g1 {pins : List (Addr × Obj)} {σ : L2.St} {H : Hp} {s : Shared} {Q : VK} {us : List Value} {vs : List V} (F : FnR X.prog X.w X.K X.mg X.base CX n g sp) (hr : Room (n + 1) X.A) (hx : Passes CX X E)
    (I : Inv X pins σ H s) (r : Vals vs us) (q : sp vs H Q E) : wpAny (model X.prog X.w) X.A.in1 (call (.ref g) us) (EP X pins σ Q) X.xe s := by
  refine wpAny_call (codeAny_mono (F X.A.in1 X.stack s H us vs Q E hr.in1 I.env0.in1 r q) fun r s' hq => ?_)
  cases r with
  | error e => exact hx _ _ _ _ _ _ I hq
  | ok fl =>
    cases fl with
    | ret u => exact I.after hq
    | next => exact False.elim hq
    | brk => exact False.elim hq
    | cont => exact False.elim hq
/-- v in x, x an instance of C with an own __contains__ -/
def rIn (C : Addr) (sp : Sp) (E : XK) (neg : Bool) : R2 := fun x y H Q => ∃ b dx fs, y = .ref b ∧ H b = some (.ins C dx fs) ∧ sp [.ref b, x] H (fun z H' => ∃ k, z = .bl k ∧ Q (.bl (if neg then !k else k)) H') E
theorem op_inO (hs : PySem.W.findIn X.K (.ref C) "__contains__" = some (some (.ref g))) (hf : PySem.W.isFn X.K (.ref g) = true) (F : FnR X.prog X.w X.K X.mg X.base CX n g sp) (hr : Room n X.A) (hx : Passes CX X E) :
    OpR X (compareOp .In) (rIn C sp E false) := by
  intro pins s σ H x y v u Q I rx ry h
  obtain ⟨b, dx, fs, rfl, hb, q⟩ := h
  cases (show u = Value.ref b from ry)
  obtain ⟨od, J⟩ := inst_of I hb
  obtain ⟨m, hF⟩ := I.fr
  refine PySem.W.in_K hF I.ok.mod.kin J hs hf (wpAny_mono (run_g (us := [.ref b, v]) (vs := [.ref b, x]) F hr hx I (.cons rfl (.cons rx .nil)) q) (fun w s' z => ?_) fun _ _ x => x)
  obtain ⟨_, H', I', rz, k, rfl, qz⟩ := z
  cases (show w = Value.bool k from rz)
  exact wpAny_truthy_bool ⟨.bl k, H', I', rfl, qz⟩
theorem op_notInO (hs : PySem.W.findIn X.K (.ref C) "__contains__" = some (some (.ref g))) (hf : PySem.W.isFn X.K (.ref g) = true) (F : FnR X.prog X.w X.K X.mg X.base CX n g sp) (hr : Room n X.A) (hx : Passes CX X E) :
    OpR X (compareOp .NotIn) (rIn C sp E true) := by
  intro pins s σ H x y v u Q I rx ry h
  obtain ⟨b, dx, fs, rfl, hb, q⟩ := h
  cases (show u = Value.ref b from ry)
  obtain ⟨od, J⟩ := inst_of I hb
  obtain ⟨m, hF⟩ := I.fr
  refine PySem.W.notIn_K hF I.ok.mod.kin J hs hf (wpAny_mono (run_g (us := [.ref b, v]) (vs := [.ref b, x]) F hr hx I (.cons rfl (.cons rx .nil)) q) (fun w s' z => ?_) fun _ _ x => x)
  obtain ⟨_, H', I', rz, k, rfl, qz⟩ := z
  cases (show w = Value.bool k from rz)
  exact wpAny_truthy_bool ⟨.bl (!k), H', I', rfl, qz⟩
/-- len(x) -/
theorem call_lenO (hs : PySem.W.findIn X.K (.ref C) "__len__" = some (some (.ref g))) (hf : PySem.W.isFn X.K (.ref g) = true) (F : FnR X.prog X.w X.K X.mg X.base CX n g sp) (hr : Room (n + 1) X.A) (hx : Passes CX X E) :
    CallR X (.builtin "len") (fun xs H Q => ∃ b dx fs, xs = [.ref b] ∧ H b = some (.ins C dx fs) ∧ sp [.ref b] H (fun z H' => ∃ k : Int, z = .int k ∧ (0 ≤ k ∧ k < 2 ^ 63) ∧ Q (.int k) H') E) := by
  intro pins s σ H xs us Q I r h
  obtain ⟨b, dx, fs, rfl, hb, q⟩ := h
  obtain ⟨u, rfl, ru⟩ := vals1 r
  cases (show u = Value.ref b from ru)
  obtain ⟨od, J⟩ := inst_of I hb
  obtain ⟨m, hF⟩ := I.fr
  refine PySem.W.len_K hF I.ok.mod.kin J hs hf (wpAny_mono (run_g1 (us := [.ref b]) (vs := [.ref b]) F hr hx I (.cons rfl .nil) q) (fun w s' z => ?_) fun _ _ x => x)
  obtain ⟨_, H', I', rz, k, rfl, hk, qz⟩ := z
  obtain ⟨t, rfl⟩ := (show ∃ t, w = Value.int k t from rz)
  exact ⟨hk, .int k, H', I'.tok _, ⟨_, rfl⟩, qz⟩
/-- the truth of x by an own __bool__ -/
theorem tru_own (hs : PySem.W.findIn X.K (.ref C) "__bool__" = some (some (.ref g))) (hf : PySem.W.isFn X.K (.ref g) = true) (F : FnR X.prog X.w X.K X.mg X.base CX n g sp) (hr : Room n X.A) (hx : Passes CX X E) :
    TruR X (fun x H Q => ∃ b dx fs, x = .ref b ∧ H b = some (.ins C dx fs) ∧ sp [.ref b] H (fun z H' => ∃ k, z = .bl k ∧ Q k H') E) := by
  intro pins s σ H x v Q I rx h
  obtain ⟨b, dx, fs, rfl, hb, q⟩ := h
  cases (show v = Value.ref b from rx)
  obtain ⟨od, J⟩ := inst_of I hb
  obtain ⟨m, hF⟩ := I.fr
  refine PySem.W.truthy_K hF I.ok.mod.kin J hs hf (wpAny_mono (run_g (us := [.ref b]) (vs := [.ref b]) F hr hx I (.cons rfl .nil) q) (fun w s' z => ?_) fun _ _ x => x)
  obtain ⟨_, H', I', rz, k, rfl, qz⟩ := z
  cases (show w = Value.bool k from rz)
  exact ⟨H', I', qz⟩
theorem pt_tru {a : Expr} {ta : TE} {r : V → Hp → (Bool → Hp → Prop) → Prop} (ht : TruR X r) (ha : PE X a ta) (he : ∀ whole, isTrue a X.env whole = (do let v ← whole; standAt a.pos; holding [v] (truthy v)) := by intro _; rfl) :
    PT X a (fun σ H Q => ta σ H fun x H' => r x H' Q) := by
  refine ⟨fun pins s σ H Q I h => ?_⟩
  exact isTrue_plain (thn (ha.run pins s σ H _ I h) fun v s1 ⟨x, H1, I1, r1, q1⟩ => ht pins s1 σ H1 x v Q I1 r1 q1) (he _)
/-- x == y by an own __eq__ of x's class -/
theorem op_eqO (hs : PySem.W.findIn X.K (.ref C) "__eq__" = some (some (.ref g))) (hf : PySem.W.isFn X.K (.ref g) = true) (F : FnR X.prog X.w X.K X.mg X.base CX n g sp) (hr : Room n X.A) (hx : Passes CX X E) :
    OpR X (compareOp .Eq) (fun x y H Q => ∃ a b dx fs dy gs, x = .ref a ∧ y = .ref b ∧ H a = some (.ins C dx fs) ∧ H b = some (.ins C dy gs) ∧ sp [.ref a, .ref b] H Q E) := by
  intro pins s σ H x y v u Q I rx ry h
  obtain ⟨a, b, dx, fs, dy, gs, rfl, rfl, ha, hb, q⟩ := h
  cases (show v = Value.ref a from rx)
  cases (show u = Value.ref b from ry)
  obtain ⟨od, J⟩ := inst_of I ha
  obtain ⟨od', J'⟩ := inst_of I hb
  obtain ⟨m, hF⟩ := I.fr
  show wpAny _ _ (richCompare .Eq (.ref a) (.ref b)) _ _ s
  refine PySem.W.cmp_K (op := .Eq) (tb := .ref C) hr.units0 hF I.ok.mod.kin J J'.type (by unfold PySem.W.notFirst; simp) hs hf ?_
  refine wpAny_mono (run_g (us := [.ref a, .ref b]) (vs := [.ref a, .ref b]) F hr hx I (.cons rfl (.cons rfl .nil)) q) (fun w s' z => ?_) fun _ _ x => x
  obtain ⟨z', H', I', rz, qz⟩ := z
  exact SlX.cmpback rz ⟨z', H', I', rz, qz⟩
end
end Own

namespace Own
open PySem PySem.Spec PyProof.Rows L2
section
variable {prog : Program} {w : World} {A : Around} {E : Value → Shared → Prop} {s : Shared} {K : PySem.W.Frag} {x C g : Addr} {ox : Obj} {od : Option Obj} {b : Value}
theorem check_obj {M : Model} {id n : String} {rest : List Value} {Q : Unit → Shared → Prop} (X : K.In s.heap) (I : PySem.W.InstAt s.heap x ox C od) (hk : builtinKind id = some .slot) (hs : splitId id = some ("object", n))
    (ha : argsOk id ⟨.ref x :: rest, []⟩) (hsub : PySem.W.subIn K (.ref C) (.type "object") = some true) (hq : Q () s) : wpAny M A (checkBuiltinCall id ⟨.ref x :: rest, []⟩) Q E s := by
  simp only [checkBuiltinCall, hk, hs]
  refine wpAny_bind ?_
  unfold isInstance
  refine wpAny_bind (I.type.here ((PySem.W.looks_subIn X hsub).here ?_))
  cases hsig : Manifest.signature? id with
  | none => exact wpAny_pure hq
  | some sig =>
    simp only [argsOk, hsig] at ha
    have h2 : Bind.checkArgs id sig ⟨.ref x :: rest, []⟩ = pure () := ha
    show wpAny M A (Bind.checkArgs id sig ⟨.ref x :: rest, []⟩) Q E _
    rw [h2]; exact wpAny_pure hq
theorem ne_K {prog : Program} {w : World} {Q : Value → Shared → Prop} {tb : Value} (hu : A.units + 1 < cLine) (X : K.In s.heap) (I : PySem.W.InstAt s.heap x ox C od) (hb : PySem.W.Looks (model prog w) s.heap (typeOf b) tb) (hn : PySem.W.notFirst K C tb = true)
    (hne : PySem.W.findIn K (.ref C) "__ne__" = some (some (.builtin "object.__ne__"))) (hs : PySem.W.findIn K (.ref C) "__eq__" = some (some (.ref g))) (hf : PySem.W.isFn K (.ref g) = true)
    (hsub : PySem.W.subIn K (.ref C) (.type "object") = some true)
    (h : wpAny (model prog w) A.in1 (call (.ref g) [.ref x, b]) (fun v s' => ∃ k, v = Value.bool k ∧ Q (.bool (!k)) s') E s) : wpAny (model prog w) A (richCompare .NotEq (.ref x) b) Q E s := by
  have hu0 : A.units < cLine := Nat.lt_of_succ_lt hu
  have body2 : wpAny (model prog w) A (call (.builtin "object.__ne__") [.ref x, b]) (fun v s' => ∃ k, v = Value.bool k ∧ Q v s') E s := by
    refine wpAny_call (codeAny_call_builtin PySem.F.cmp_object.ne.plain PySem.F.cmpEntry_ne (check_obj X I PySem.F.cmpKind_ne PySem.F.cmpSplit_ne (PySem.F.cmpArgs_ne _ _) hsub ?_))
    show wpAny (model prog w) A.in1 (Builtin.«object.__ne__» ⟨[.ref x, b], []⟩) _ _ s
    unfold Builtin.«object.__ne__»
    refine wpAny_bind (m := slotArgs "__ne__" 1 _) (wpAny_pure ?_)
    refine wpAny_bind (wpAny_cRoomFor (by exact hu) ?_)
    refine wpAny_bind (m := callSpecialIfBound? (.ref x) (Str.ofString "__eq__") _) (PySem.W.ifBound_K X I hs hf (wpAny_mono h (fun r s' hr => ?_) fun _ _ y => y))
    obtain ⟨k, rfl, q⟩ := hr
    refine wpAny_bind (wpAny_truthy_bool ?_)
    exact wpAny_pure ⟨_, rfl, q⟩
  have one : wpAny (model prog w) A (tryCompare (.ref x) (Str.ofString "__ne__") b) (fun r s' => ∃ v, r = some v ∧ Q v s') E s := by
    unfold tryCompare
    refine wpAny_bind ?_
    simp only [callSpecialIfBound?, bindSpecialIfBound?]
    refine wpAny_holding (wpAny_bind (wpAny_bind (wpAny_bind (I.type.here ((PySem.W.looks_findIn X hne).here ?_)))))
    simp only [PySem.F.cmp_object.ne.bind]
    have fin : wpAny (model prog w) A (call (.builtin "object.__ne__") ([.ref x] ++ [b]) >>= fun v => pure (some v)) (fun r s' => wpAny (model prog w) A (match r with | some .notImplemented | none => pure none | some v => pure (some v)) (fun r s' => ∃ v, r = some v ∧ Q v s') E s') E s := by
      refine wpAny_bind (wpAny_mono body2 (fun v s' hv => wpAny_pure ?_) fun _ _ z => z)
      obtain ⟨k, rfl, hv⟩ := hv
      exact wpAny_pure ⟨_, rfl, hv⟩
    refine wpAny_bind (wpAny_askSetting (wpAny_ite ?_))
    split
    · exact wpAny_bind (wpAny_pure (wpAny_pure (by exact fin)))
    · exact wpAny_tryCatch (wpAny_bind (wpAny_pure (wpAny_pure (by exact fin))))
  unfold richCompare
  simp only [oneThing_ref]
  refine wpAny_holding (wpAny_bind (wpAny_cRoomFor hu0 ?_))
  refine wpAny_bind (I.type.here (wpAny_bind (hb.here ?_)))
  split
  · rename_i q
    have e : PySem.W.subIn K tb (.ref C) = some false := by
      rcases Bool.or_eq_true_iff.mp hn with e | e
      · rw [beq_iff_eq.mp e] at q; simp at q
      · exact beq_iff_eq.mp e
    refine wpAny_bind ((PySem.W.looks_subIn X e).here ?_)
    simp only [Bool.false_eq_true, if_false]
    refine wpAny_bind (wpAny_mono one (fun r s' z => ?_) fun _ _ e => e)
    obtain ⟨v, rfl, hq⟩ := z
    exact wpAny_pure hq
  · refine wpAny_bind (wpAny_pure ?_)
    simp only [Bool.false_eq_true, if_false]
    refine wpAny_bind (wpAny_mono one (fun r s' z => ?_) fun _ _ e => e)
    obtain ⟨v, rfl, hq⟩ := z
    exact wpAny_pure hq
theorem binop_S {b : Str} {tk : Tok} {Q : Value → Shared → Prop} (X : K.In s.heap) (I : PySem.W.InstAt s.heap x ox C od) (hc : PySem.W.selfFirst K C = true) 
    (hs : PySem.W.findIn K (.ref C) (PySem.dunder "add") = some (some (.ref g))) (hf : PySem.W.isFn K (.ref g) = true)
    (h : wpAny (model prog w) A (call (.ref g) [.ref x, .str b tk]) (PySem.W.CmpBack Q) E s) : wpAny (model prog w) A (binaryOp .Add (.ref x) (.str b tk)) Q E s := by
  obtain ⟨cd, hcd, hm⟩ := PySem.W.any_some hc
  obtain ⟨rest, hm⟩ : ∃ rest, cd.mro = .ref C :: rest := by
    cases q : cd.mro with
    | nil => rw [q] at hm; cases hm
    | cons a r => rw [q] at hm; exact ⟨r, by rw [List.head?_cons] at hm; cases (beq_iff_eq.mp hm); rfl⟩
  unfold binaryOp
  refine wpAny_holding (wpAny_bind ?_)
  unfold binaryOp1
  refine wpAny_bind (I.type.here (wpAny_bind (wpAny_pure (wpAny_bind ((PySem.W.fills_K X hcd hm hs).here ?_)))))
  have hne : (Value.ref C == Value.type "str") = false := rfl
  simp only [hne, Bool.false_eq_true, if_false]
  refine wpAny_bind (wpAny_of_eq (a := false) PySem.noFill_str_add ?_)
  simp only [Bool.and_false, Bool.false_eq_true, if_false, Bool.false_and]
  refine wpAny_bind (wpAny_pure ?_)
  simp only [Bool.false_eq_true, if_false]
  refine wpAny_bind (m := tryMethod (.ref x) _ (.str b tk)) ?_
  unfold tryMethod
  refine wpAny_bind (PySem.W.special_fn X I hs (beq_iff_eq.mp hf) (wpAny_mono h (fun v s' hv => ?_) fun _ _ e => e))
  cases v <;> first | exact hv.elim | exact wpAny_pure (wpAny_pure (wpAny_pure hv))
end
section
variable {X : Cx} {CX : CXT} {C g : Addr} {n : Nat} {sp : Sp} {E : XK}
/-- x != y by an own __eq__ of x's class, no own __ne__ -/
theorem op_neO (hne : PySem.W.findIn X.K (.ref C) "__ne__" = some (some (.builtin "object.__ne__"))) (hsub : PySem.W.subIn X.K (.ref C) (.type "object") = some true)
    (hs : PySem.W.findIn X.K (.ref C) "__eq__" = some (some (.ref g))) (hf : PySem.W.isFn X.K (.ref g) = true) (F : FnR X.prog X.w X.K X.mg X.base CX n g sp) (hr : Room (n + 1) X.A) (hx : Passes CX X E) :
    OpR X (compareOp .NotEq) (fun x y H Q => ∃ a b dx fs dy gs, x = .ref a ∧ y = .ref b ∧ H a = some (.ins C dx fs) ∧ H b = some (.ins C dy gs) ∧ sp [.ref a, .ref b] H (fun z H' => ∃ k, z = .bl k ∧ Q (.bl (!k)) H') E) := by
  intro pins s σ H x y v u Q I rx ry h
  obtain ⟨a, b, dx, fs, dy, gs, rfl, rfl, ha, hb, q⟩ := h
  cases (show v = Value.ref a from rx)
  cases (show u = Value.ref b from ry)
  obtain ⟨od, J⟩ := inst_of I ha
  obtain ⟨od', J'⟩ := inst_of I hb
  show wpAny _ _ (richCompare .NotEq (.ref a) (.ref b)) _ _ s
  refine ne_K (tb := .ref C) (hu_of hr) I.kIn J J'.type (by unfold PySem.W.notFirst; simp) hne hs hf hsub ?_
  refine wpAny_mono (run_g1 (us := [.ref a, .ref b]) (vs := [.ref a, .ref b]) F hr hx I (.cons rfl (.cons rfl .nil)) q) (fun w s' z => ?_) fun _ _ x => x
  obtain ⟨_, H', I', rz, k, rfl, qz⟩ := z
  cases (show w = Value.bool k from rz)
  exact ⟨k, rfl, .bl (!k), H', I', rfl, qz⟩
/-- x + "text" -/
theorem op_addS (hc : PySem.W.selfFirst X.K C = true) (hs : PySem.W.findIn X.K (.ref C) "__add__" = some (some (.ref g))) (hf : PySem.W.isFn X.K (.ref g) = true)
    (F : FnR X.prog X.w X.K X.mg X.base CX n g sp) (hr : Room n X.A) (hx : Passes CX X E) :
    OpR X (binaryOp .Add) (fun x y H Q => ∃ a dx fs t, x = .ref a ∧ y = .str t ∧ H a = some (.ins C dx fs) ∧ sp [.ref a, .str t] H Q E) := by
  intro pins s σ H x y v u Q I rx ry h
  obtain ⟨a, dx, fs, t, rfl, rfl, ha, q⟩ := h
  cases (show v = Value.ref a from rx)
  obtain ⟨tk, rfl⟩ := (show ∃ tk, u = Value.str t tk from ry)
  obtain ⟨od, J⟩ := inst_of I ha
  refine binop_S I.kIn J hc hs hf ?_
  refine wpAny_mono (run_g (us := [.ref a, .str t tk]) (vs := [.ref a, .str t]) F hr hx I (.cons rfl (.cons ⟨_, rfl⟩ .nil)) q) (fun w s' z => ?_) fun _ _ x => x
  obtain ⟨z', H', I', rz, qz⟩ := z
  exact SlX.cmpback rz ⟨z', H', I', rz, qz⟩
end
end Own

namespace Own
open PySem PySem.Spec PyProof.Rows L2
section
variable {M : Model} {A : Around} {E : Value → Shared → Prop} {s : Shared}
theorem ea_two {f : Value} {x : Sem Value} {b : Bool × Sem Value} {r : List (Bool × Sem Value)} {Q : Args → Shared → Prop} (h : wpAny M A (spliced ((true, x) :: b :: r)) (fun vs s₁ => Q ⟨vs, []⟩ s₁) E s) :
    wpAny M A (evalArgs f true ((true, x) :: b :: r) []) Q E s := by
  unfold evalArgs
  refine wpAny_bind (m := spliced ((true, x) :: b :: r)) (wpAny_mono h (fun vs s₁ h₁ => wpAny_bind (wpAny_pure ?_)) fun _ _ z => z)
  refine wpAny_holding ?_
  refine wpAny_bind (m := evalAll []) (wpAny_evalAll_nil ?_)
  exact wpAny_bind (wpAny_pure (wpAny_pure h₁))
end
section
variable {X : Cx} {CX : CXT} {k i : Nat} {f C p_ g : Addr} {mc : Value} {sp : Sp} {E : XK} {x m : Str} {e e2 o : Expr} {es : List Expr} {te ta t2 : TE} {t : TA} {p pos apos : Pos} {pl : Sem Bool}
def tStar1 (K : PySem.W.Frag) (te : TE) : TA := fun σ H Q => te σ H fun y H1 => ∃ a xs, y = V.ref a ∧ (SqT K H1 a xs ∨ SqL K H1 a xs) ∧ Q xs H1
/-- C(*y) -/
theorem pe_makeS (M : Mk X.K C f) (F : FnR X.prog X.w X.K X.mg X.base CX k f sp) (hr : Room (k + 1) X.A) (hg : Gl X x) (hm : X.mg x = some (.ref C)) (hx : Passes CX X E) (he : PE X e te) (hdb : (x == ("__debug__" : Str)) = false := by decide)
    (hst : starEach [.Starred e p] X.env = [(true, eval e X.env)] := by rfl) :
    PE X (.Call (.Name x apos) [.Starred e p] [] pos) (StX.tMakeR C sp E (tStar1 X.K te)) := by
  refine ⟨fun pins s σ H Q I h => ?_⟩
  refine wpAny_Call_Name_kw (ld_glob I hg hm ?_ hdb)
  refine PySem.W.callWith_S (h₀ := X.base) I.ok.mod.kin M.kp (thn (he.run pins s σ H _ I h) fun v s1 ⟨y, H1, I1, ry, a, xs, ey, hxs, q⟩ => ?_) hst
  subst ey
  obtain rfl : v = Value.ref a := ry
  exact StX.star_any I1 hxs fun us s2 I2 rv => ⟨I2.kIn, StX.run_makeR M F hr hx I2 rv q⟩
/-- c(*y), c a name of the def that holds the class -/
theorem pe_makeLS (M : Mk X.K C f) (F : FnR X.prog X.w X.K X.mg X.base CX k f sp) (hr : Room (k + 1) X.A) (hc : PE X (.Name x apos) (tVar i)) (hx : Passes CX X E) (he : PE X e te)
    (hst : starEach [.Starred e p] X.env = [(true, eval e X.env)] := by rfl) :
    PE X (.Call (.Name x apos) [.Starred e p] [] pos) (fun σ H Q => σ[i]? = some (some (.ref C)) ∧ StX.tMakeR C sp E (tStar1 X.K te) σ H Q) := by
  refine ⟨fun pins s σ H Q I h => ?_⟩
  obtain ⟨h0, h⟩ := h
  refine wpAny_Call_Name_kw (thn (hc.run pins s σ H (fun v H' => v = .ref C ∧ H' = H) I ⟨.ref C, h0, rfl, rfl⟩) fun v s1 ⟨y, H1, I1, ry, ey, eH⟩ => ?_)
  subst ey
  subst eH
  obtain rfl : v = Value.ref C := ry
  refine PySem.W.callWith_S (h₀ := X.base) I1.ok.mod.kin M.kp (thn (he.run pins s1 σ _ _ I1 h) fun v s1 ⟨y, H1, I1, ry, a, xs, ey, hxs, q⟩ => ?_) hst
  subst ey
  obtain rfl : v = Value.ref a := ry
  exact StX.star_any I1 hxs fun us s2 I2 rv => ⟨I2.kIn, StX.run_makeR M F hr hx I2 rv q⟩
/-- C(*y, e) -/
theorem pe_makeS1 (M : Mk X.K C f) (F : FnR X.prog X.w X.K X.mg X.base CX k f sp) (hr : Room (k + 1) X.A) (hg : Gl X x) (hm : X.mg x = some (.ref C)) (hx : Passes CX X E) (ha : PA X [.Starred e p, e2] t) (hdb : (x == ("__debug__" : Str)) = false := by decide)
    (hst : starEach [.Starred e p, e2] X.env = [(true, eval e X.env), (false, eval e2 X.env)] := by rfl) :
    PE X (.Call (.Name x apos) [.Starred e p, e2] [] pos) (StX.tMakeR C sp E t) := by
  refine ⟨fun pins s σ H Q I h => ?_⟩
  refine wpAny_Call_Name_kw (ld_glob I hg hm ?_ hdb)
  have z := ha.run pos pins s σ H _ I h
  show wpAny _ _ (callWith pos (.ref C) [] (backTo pos (starEach [.Starred e p, e2] X.env)) []) _ _ s
  rw [hst] at z ⊢
  refine PySem.W.ks_call rfl (PySem.W.keeps_K M.kp) (ea_two (thn z fun us s1 ⟨vs, H1, I1, r, q⟩ => ⟨I1.kIn, ?_⟩))
  exact StX.run_makeR M F hr hx I1 r q
/-- C() -/
theorem pe_makeR0 (M : Mk X.K C f) (F : FnR X.prog X.w X.K X.mg X.base CX k f sp) (hr : Room (k + 1) X.A) (hg : Gl X x) (hm : X.mg x = some (.ref C)) (hx : Passes CX X E) (hdb : (x == ("__debug__" : Str)) = false := by decide) :
    PE X (.Call (.Name x apos) [] [] pos) (StX.tMakeR C sp E tNil) := by
  refine ⟨fun pins s σ H Q I h => ?_⟩
  refine wpAny_Call_Name_kw (ld_glob I hg hm ?_ hdb)
  exact PySem.W.callWith_K0 I.kIn M.kp (StX.run_makeR (us := []) M F hr hx I .nil h)

/-- C.m is a staticmethod: its record at p, its def at g -/
structure SMet (K : PySem.W.Frag) (C : Addr) (mc : Value) (m : Str) (p g : Addr) : Prop where
  at_ : PySem.W.findCls K (.ref C) mc m = some (.get (.builtin "staticmethod.__get__") (.ref p) .none (.ref C))
  rc : ∃ rest, PySem.W.recIn K p "staticmethod" = some (.ref g :: rest)
  kp : PySem.W.keepIn K (.ref g) = true
theorem getmethsm_ok {pins : List (Addr × Obj)} {σ : L2.St} {H : Hp} {s : Shared} {A : Around} {E : Value → Shared → Prop} {Q : Value × List Value → Shared → Prop} (I : Inv X pins σ H s) (r : ClX.CRead X.K C mc) (k : SMet X.K C mc m p_ g)
    (h : ∀ s', Inv X pins σ H s' → Q (.ref g, []) s') : wpAny (model X.prog X.w) A (getMethod (.ref C) m pl) Q E s := by
  obtain ⟨rest, hp⟩ := k.rc
  refine PySem.W.method_cls I.kIn r.ga (PySem.W.cls_bind I.kIn r.rd k.at_ ?_)
  refine wpAny_call (PySem.W.sm_get (s := { s with toks := s.toks + 1 }) I.kIn hp (PySem.W.handed_on rfl ?_))
  exact h _ (I.tok _)
/-- C.m(e, ..) -/
def tSMeth (C : Addr) (sp : Sp) (E : XK) (ta : TE) (t : TA) : TE := fun σ H Q => ta σ H fun x H1 => x = .ref C ∧ t σ H1 fun vs H2 => sp vs H2 Q E
theorem pe_smeth (he : PE X o ta) (r : ClX.CRead X.K C mc) (c : SMet X.K C mc m p_ g) (F : FnR X.prog X.w X.K X.mg X.base CX k g sp) (hr : Room k X.A) (hx : Passes CX X E) (ha : PA X (e :: es) t)
    (hst : starEach (e :: es) X.env = (false, eval e X.env) :: starEach es X.env := by rfl) (hpl : (backTo pos (starEach es X.env)).any (·.1) = false := by rfl)
    (ht : eval (.Call (.Attribute o m apos) (e :: es) [] pos) X.env = (do
      let ov ← eval o X.env
      standAt apos.atName
      let (f, first) ← holding [ov] (getMethod ov m pl)
      callWith pos f first (backTo pos (starEach (e :: es) X.env)) (backToKw pos (keywordEach [] X.env))) := by rfl) :
    PE X (.Call (.Attribute o m apos) (e :: es) [] pos) (tSMeth C sp E ta t) := by
  refine ⟨fun pins s σ H Q I h => ?_⟩
  refine PySem.W.methodCall_KW (pl := pl) (thn (he.run pins s σ H _ I h) fun u s1 ⟨x, H1, I1, rx, ex, q⟩ => ?_) ht
  subst ex
  obtain rfl : u = Value.ref C := rx
  refine getmethsm_ok I1 r c fun s2 I2 => ?_
  refine PySem.W.callWith_K (first := []) (h₀ := X.base) I.ok.mod.kin c.kp (thn (ha.run pos pins s2 σ H1 _ I2 q) fun us s3 ⟨vs, H2, I3, r, q2⟩ => ⟨I3.kIn, ?_⟩) hst hpl
  exact run_g F hr hx I3 r q2
/-- o.m(k = e), no positional argument: by a def's promise over its bound parameters [self, e] -/
def tMethK1 (C : Addr) (m : Str) (sp : Sp) (E : XK) (ta te : TE) : TE := fun σ H Q => ta σ H fun x H1 => ∃ a dx fs, x = .ref a ∧ H1 a = some (.ins C dx fs) ∧ fs.lookup m = none ∧ tCons te tNil σ H1 fun zs H2 => sp (x :: zs) H2 Q E
theorem pe_methK1 {fd : FuncData} {kn : Str} {kpos : Pos} {a1 : Str} (he : PE X o ta) (c : Cls X.K C) (hm : Meth X.K C m f) (F : FnOk X.prog X.w X.K X.mg X.base CX k f fd [a1, kn] sp) (hr : Room k X.A)
    (hb : ∀ (s : Shared) (u v : Value), X.K.In s.heap → BindsTo s fd ⟨[u], [(kn, v)]⟩ [(a1, u), (kn, v)]) (hx : Passes CX X E) (hk : PE X e te)
    (ht : eval (.Call (.Attribute o m apos) [] [⟨some kn, e, kpos⟩] pos) X.env = (do
      let ov ← eval o X.env
      standAt apos.atName
      let (f, first) ← holding [ov] (getMethod ov m pl)
      callWith pos f first (backTo pos (starEach [] X.env)) (backToKw pos (keywordEach [⟨some kn, e, kpos⟩] X.env))) := by rfl) :
    PE X (.Call (.Attribute o m apos) [] [⟨some kn, e, kpos⟩] pos) (tMethK1 C m sp E ta te) := by
  refine ⟨fun pins s σ H Q I h => ?_⟩
  refine PySem.W.methodCall_KW (pl := pl) (thn (he.run pins s σ H _ I h) fun u s1 ⟨x, H1, I1, rx, a, dx, fs, ex, ea, l, q⟩ => ?_) ht
  subst ex
  obtain rfl : u = Value.ref a := rx
  refine getmeth_ok I1 ea c hm l ?_
  refine PySem.W.callWith_KW0 (first := [.ref a]) (h₀ := X.base) I.ok.mod.kin hm.kp rfl (thn ((pk_cons (nm := some kn) (kpos := kpos) hk pk_nil).run pos pins s1 σ H1 _ I1 q) fun ws s2 ⟨zs, H2, I2, rz, q2⟩ => ⟨I2.kIn, ?_⟩) rfl
  have hl := F.len _ _ _ _ q2
  obtain ⟨z, rfl⟩ : ∃ z, zs = [z] := by
    match zs, hl with
    | [z], _ => exact ⟨z, rfl⟩
  obtain ⟨u', rfl, ru⟩ := vals1 rz
  refine wpAny_call (codeAny_mono (F.run X.A X.stack s2 H2 ⟨[.ref a], [(kn, u')]⟩ [.ref a, u'] [.ref a, z] Q E hr I2.env0 (hb s2 _ _ I2.kIn) (.cons rfl (.cons ru .nil)) q2) fun r s' hq => ?_)
  cases r with
  | error e => exact hx pins σ H2 s2 e s' I2 hq
  | ok fl =>
    cases fl with
    | ret u => exact I2.after hq
    | next => exact False.elim hq
    | brk => exact False.elim hq
    | cont => exact False.elim hq
end
end Own

namespace Own
open PySem PySem.Spec PyProof.Rows L2
/-- the order of tuples of texts -/
def lexS : List Str → List Str → Bool
  | [], [] => false
  | [], _ :: _ => true
  | _ :: _, [] => false
  | x :: xs, y :: ys => if x = y then lexS xs ys else decide (x.cps.toList < y.cps.toList)
theorem rcLt_str {prog : Program} {w : World} (A : Around) (s : Shared) (a : Str) (t : Tok) (c : Str) (u : Tok) (E : Value → Shared → Prop) (Q : Value → Shared → Prop) (h : Q (.bool (decide (a.cps.toList < c.cps.toList))) s) :
    wpAny (model prog w) A (richCompare .Lt (.str a t) (.str c u)) Q E s :=
  (PyProof.Rows.lt_str h : wpAny (model prog w) A (compareOp .Lt (.str a t) (.str c u)) Q E s)
section
open PySem.SeqAt
open PySem.AutoSeq1 (wpAny_loadPart')
open PySem.MeetsSeq PySem.MeetsSeq2 PySem.MeetsSeq3
theorem tuple_lt_strs (l b : Addr) (its its2 : Array Value) (n n2 : Nat) (dd dd2 : Option Addr) (sl sl2 : Array (Option Value)) (ns ms : List Str) (hi : StrsAre its.toList ns) (hj : StrsAre its2.toList ms)
    (z1 : its.size = ns.length) (z2 : its2.size = ms.length) :
    Meets (Builtin.«tuple.__lt__» ⟨[.ref l, .ref b], []⟩)
      (fun _ R s => s.heap.get? l = some { cls := .type "tuple", dict := dd, data := .seq its n, slots := sl } ∧ s.heap.get? b = some { cls := .type "tuple", dict := dd2, data := .seq its2 n2, slots := sl2 } ∧
        R (.ok (.ret (.bool (lexS ns ms)))) s) :=
  .of_wp fun prog w A R s h => by
    obtain ⟨hp, g, d, tk, os⟩ := s
    obtain ⟨hl, hb, h⟩ := h
    have f2 := AutoSeq1.sub_tuple_tuple
    wp_walk using wpAny_loadPart' hl, wpAny_loadPart' hb, wpAny_forIn_list _ (fun rest b s' => b.1 = none ∧ s' = ⟨hp, g, d, tk, os⟩ ∧ ∃ (vs ws : List Value) (ns' ms' : List Str), rest = vs.zip ws ∧
      StrsAre vs ns' ∧ StrsAre ws ms' ∧ ns'.length + its2.size = ms'.length + its.size ∧ R (.ok (.ret (.bool (lexS ns' ms')))) ⟨hp, g, d, tk, os⟩) _
    case turn =>
      rintro ⟨y, x⟩ rest b s' ⟨hb', rfl, vs, ws, ns', ms', hz, hvi, hwi, hlen, hR⟩
      cases hvi with
      | nil =>
        rw [List.zip_nil_left] at hz
        cases hz
      | cons a t hvi' =>
        cases hwi with
        | nil =>
          rw [List.zip_nil_right] at hz
          cases hz
        | cons c u hwi' =>
          rw [List.zip_cons_cons] at hz
          injection hz with hyx hrest
          injection hyx with hy hx
          subst hy hx
          have hR2 : R (.ok (.ret (.bool (if a = c then lexS _ _ else decide (a.cps.toList < c.cps.toList))))) ⟨hp, g, d, tk, os⟩ := hR
          simp only [List.length_cons] at hlen
          have he := SeqAt.EqAt.str_str (A := A.in1) (s := ⟨hp, g, d, tk, os⟩) a t c u
          refine wpAny_bind (he prog w _ _ ?_)
          by_cases hac : a = c
          · rw [if_pos hac] at hR2
            rw [show (a == c) = true from beq_iff_eq.mpr hac]
            wp_walk
            exact ⟨rfl, rfl, _, _, _, _, hrest, hvi', hwi', by omega, hR2⟩
          · rw [if_neg hac] at hR2
            rw [show (a == c) = false from beq_eq_false_iff_ne.mpr hac]
            have hri := rcLt_str (prog := prog) (w := w) A.in1 ⟨hp, g, d, tk, os⟩ a t c u
            wp_walk using hri
            exact ⟨_, rfl, by simpa using hR2⟩
    case fin =>
      rintro ⟨b1, b2⟩ s' ⟨hb', rfl, vs, ws, ns', ms', hz, hvi, hwi, hlen, hR⟩
      simp only at hb'
      subst hb'
      have hv : lexS ns' ms' = decide (its.size < its2.size) := by
        cases hvi with
        | nil =>
          cases hwi with
          | nil =>
            simp only [List.length_nil] at hlen
            show false = _
            exact (decide_eq_false (by omega)).symm
          | cons c u hw =>
            simp only [List.length_nil, List.length_cons] at hlen
            show true = _
            exact (decide_eq_true (by omega)).symm
        | cons a t hv =>
          cases hwi with
          | nil =>
            simp only [List.length_nil, List.length_cons] at hlen
            show false = _
            exact (decide_eq_false (by omega)).symm
          | cons c u hw =>
            rw [List.zip_cons_cons] at hz
            cases hz
      rw [hv] at hR
      wp_walk
      exact ⟨_, rfl, by simpa [Builtin.Tuple.tupleCompareSizes] using hR⟩
    case h =>
      exact ⟨rfl, rfl, its.toList, its2.toList, ns, ms, rfl, hi, hj, by omega, h⟩
end
section
variable {X : Cx}
/-- t < u, tuples of texts -/
theorem op_ltTS (hu : X.A.units < cLine) : OpR X (compareOp .Lt) (fun x y H Q => ∃ a b ns ms, x = .ref a ∧ y = .ref b ∧ SqT X.K H a (ns.map V.str) ∧ SqT X.K H b (ms.map V.str) ∧ Q (.bl (lexS ns ms)) H) := by
  intro pins s σ H x y v u Q I rx ry h
  obtain ⟨a, b, ns, ms, rfl, rfl, ha, hb, q⟩ := h
  cases rx
  cases ry
  obtain ⟨its, r1, p1, _⟩ := I.tuple ha
  obtain ⟨its2, r2, p2, _⟩ := I.tuple hb
  have i1 : StrsAre its.toArray.toList ns := strs_of_vals r1
  have i2 : StrsAre its2.toArray.toList ms := strs_of_vals r2
  have z1 : its.toArray.size = ns.length := by
    have := r1.length
    simp at this ⊢
    omega
  have z2 : its2.toArray.size = ms.length := by
    have := r2.length
    simp at this ⊢
    omega
  obtain ⟨⟨cls, dd, data, sl⟩, ho, hc, n, hd⟩ := id p1
  obtain ⟨⟨cls2, dd2, data2, sl2⟩, ho2, hc2, n2, hd2⟩ := id p2
  simp only at hc hd hc2 hd2
  subst hc hd hc2 hd2
  exact richCompare_meets_room (op := .Lt) ⟨_, ho, rfl⟩ ⟨_, ho2, rfl⟩ PySem.F.slot_tuple_lt PySem.F.entry_tuple_lt (PySem.F.args_tuple_lt_2 _ _) (tuple_lt_strs a b its.toArray its2.toArray n n2 dd dd2 sl sl2 ns ms i1 i2 z1 z2)
    ⟨ho, ho2, show Value.bool (lexS ns ms) ≠ Value.notImplemented ∧ EP X pins σ Q (Value.bool (lexS ns ms)) s from ⟨(fun x => nomatch x), .bl (lexS ns ms), H, I, rfl, q⟩⟩ hu
end
end Own

namespace Own
open PySem PySem.Spec PyProof.Rows L2
section
open PySem.SeqAt
open PySem.AutoSeq1 (wpAny_loadPart')
open PySem.MeetsSeq PySem.MeetsSeq2 PySem.MeetsSeq3 PySem.SeqRoads2
variable {prog : Program} {w : World} {A : Around} {R : Result → Shared → Prop}
/-- at each turn the list is read anew -/
def ConI (prog : Program) (w : World) (A : Around) (E : Value → Shared → Prop) (l : Addr) (x : Value) (N : Nat) (res : Nat → Bool) (I : Nat → Shared → Prop) : Prop :=
  ∀ i s, I i s → ∃ (items : Array Value) (n : Nat), s.heap.get? l = some { cls := .type "list", data := .seq items n } ∧ items.size = N ∧
    ∀ (h1 : i < items.size), wpAny (model prog w) A.in1 (eqBool items[i] x) (fun r s' => r = res i ∧ I (i + 1) s') E s
theorem con_loop (l : Addr) (x : Value) (N : Nat) (res : Nat → Bool) (I : Nat → Shared → Prop) (hl : ConI prog w A (fun e s' => R (.error e) s') l x N res I)
    (finT : ∀ i s, i < N → res i = true → I (i + 1) s → R (.ok (.ret (.bool true))) s) (finF : (∀ j, j < N → res j = false) → ∀ s, I N s → R (.ok (.ret (.bool false))) s) (k : Nat) :
    ∀ i : Nat, N - i = k → i ≤ N → (∀ j, j < i → res j = false) → ∀ s, I i s →
      wpAny (model prog w) A.in1 (Builtin.«list.__contains__.loop» ⟨[.ref l, x, rawInt i], []⟩) (GQ.FinOf prog w A R) (fun e s' => R (.error e) s') s := by
  induction k with
  | zero =>
    intro i hk hi hno s h
    obtain ⟨items, n, hl1, hs1, _⟩ := hl _ _ h
    have hi' : i = N := by omega
    have hR : R (.ok (.ret (.bool false))) s := finF (fun j hj => hno j (by omega)) s (hi' ▸ h)
    obtain ⟨hp, g, d, tk, os⟩ := s
    wp_walk using wpAny_loadPart' hl1
    have hi1 : items[((i : Nat) : Int).toNat]? = none := by simp; omega
    rw [hi1]
    wp_walk using wpAny_loadPart' hl1
    exact hR
  | succ k ih =>
    intro i hk hi hno s h
    obtain ⟨items, n, hl1, hs1, turn⟩ := hl _ _ h
    have hlt : i < items.size := by omega
    have ht := turn hlt
    obtain ⟨hp, g, d, tk, os⟩ := s
    wp_walk using wpAny_loadPart' hl1
    have hi1 : items[((i : Nat) : Int).toNat]? = some items[i] := by simp [hlt]
    have hc : ((i : Int) + 1) = ((i + 1 : Nat) : Int) := by omega
    rw [hi1]
    refine wpAny_bind (wpAny_mono ht (fun r s2 h2 => ?_) fun _ _ x => x)
    obtain ⟨hr, h2⟩ := h2
    subst hr
    cases hres : res i with
    | true =>
      have hR := finT i s2 (by omega) hres h2
      obtain ⟨hp2, g2, d2, tk2, os2⟩ := s2
      wp_walk
      exact hR
    | false =>
      have hrec := ih (i + 1) (by omega) (by omega) (fun j hj => by
        rcases Nat.lt_succ_iff_lt_or_eq.mp hj with q | q
        · exact hno j q
        · rw [q]; exact hres) s2 h2
      obtain ⟨hp2, g2, d2, tk2, os2⟩ := s2
      wp_walk
      rw [hc]
      exact ⟨plainId_quiet plain_contains_loop _, codeAny_builtin entry_contains_loop (by
        rw [Around.under_plainId plain_contains_loop _]
        exact hrec)⟩
theorem con_list (l : Addr) (x : Value) (N : Nat) (res : Nat → Bool) (I : Nat → Shared → Prop) (hl : ConI prog w A (fun e s' => R (.error e) s') l x N res I)
    (finT : ∀ i s, i < N → res i = true → I (i + 1) s → R (.ok (.ret (.bool true))) s) (finF : (∀ j, j < N → res j = false) → ∀ s, I N s → R (.ok (.ret (.bool false))) s) {s : Shared} (h : I 0 s) :
    wpAny (model prog w) A.in1 (Builtin.«list.__contains__» ⟨[.ref l, x], []⟩) (GQ.FinOf prog w A R) (fun e s' => R (.error e) s') s := by
  have hrec := con_loop (A := A) (R := R) l x N res I hl finT finF _ 0 rfl (Nat.zero_le _) (fun j hj => absurd hj (Nat.not_lt_zero j)) s h
  obtain ⟨hp, g, d, tk, os⟩ := s
  wp_walk
  exact ⟨plainId_quiet plain_contains_loop _, codeAny_builtin entry_contains_loop (by
    rw [Around.under_plainId plain_contains_loop _]
    exact hrec)⟩
end
section
variable {X : Cx} {CX : CXT} {C g : Addr} {n : Nat} {sp : Sp} {E : XK}
/-- == of an item z with the asked value, within a builtin -/
def EqT (X : Cx) (z x : V) (H : Hp) (K : Bool → Hp → Prop) : Prop := ∀ (pins : List (Addr × Obj)) (σ : L2.St) (s : Shared) (u v : Value), Inv X pins σ H s → RelV z u → RelV x v →
  wpAny (model X.prog X.w) X.A.in1 (eqBool u v) (fun r s' => ∃ H', Inv X pins σ H' s' ∧ K r H') X.xe s
theorem eqT_own (hs : PySem.W.findIn X.K (.ref C) "__eq__" = some (some (.ref g))) (hf : PySem.W.isFn X.K (.ref g) = true) (F : FnR X.prog X.w X.K X.mg X.base CX n g sp) (hr : Room (n + 1) X.A) (hx : Passes CX X E)
    {a b dx dy : Addr} {fs gs : List (Str × V)} {H : Hp} {K : Bool → Hp → Prop} (ha : H a = some (.ins C dx fs)) (hb : H b = some (.ins C dy gs)) (same : a = b → K true H)
    (q : sp [.ref a, .ref b] H (fun z H' => ∃ k, z = .bl k ∧ K k H') E) : EqT X (.ref a) (.ref b) H K := by
  intro pins σ s u v I ru rv
  cases (show u = Value.ref a from ru)
  cases (show v = Value.ref b from rv)
  by_cases hab : a = b
  · subst hab
    unfold eqBool
    refine wpAny_holding ?_
    refine wpAny_ite_split (fun _ => ?_) (fun hn => absurd (by simp) hn)
    exact wpAny_bind (wpAny_rule (wpAny_pure ⟨H, I, same rfl⟩))
  · obtain ⟨od, J⟩ := inst_of I ha
    obtain ⟨od', J'⟩ := inst_of I hb
    obtain ⟨m, hF⟩ := I.fr
    refine GQ.eqBool_refG hab ?_
    refine PySem.W.cmp_K (op := .Eq) (tb := .ref C) (hr.in1).units0 hF I.ok.mod.kin J J'.type (by unfold PySem.W.notFirst; simp) hs hf ?_
    refine wpAny_mono (run_g1 (us := [.ref a, .ref b]) (vs := [.ref a, .ref b]) F hr hx I (.cons rfl (.cons rfl .nil)) q) (fun w s' z => ?_) fun _ _ x => x
    obtain ⟨_, H', I', rz, k, rfl, qz⟩ := z
    cases (show w = Value.bool k from rz)
    exact ⟨k, rfl, H', I', qz⟩
/-- x in l, items compared one by one -/
def rInL (X : Cx) (neg : Bool) : R2 := fun x y H Q => ∃ (l : Addr) (xs : List V) (res : Nat → Bool) (P : Nat → Hp → Prop), y = .ref l ∧ P 0 H ∧ (∀ i H', P i H' → H' l = some (.lst xs)) ∧
  (∀ i z H', xs[i]? = some z → P i H' → EqT X z x H' (fun r H'' => r = res i ∧ P (i + 1) H'')) ∧
  (∀ i H', i < xs.length → res i = true → P (i + 1) H' → Q (.bl (if neg then false else true)) H') ∧ ((∀ j, j < xs.length → res j = false) → ∀ H', P xs.length H' → Q (.bl (if neg then true else false)) H')
theorem op_inL : OpR X (compareOp .In) (rInL X false) := by
  intro pins s σ H x y v u Q I rx ry h
  obtain ⟨l, xs, res, P, rfl, h0, hl, ht, hT, hF⟩ := h
  cases (show u = Value.ref l from ry)
  obtain ⟨_, its, n, _, e0⟩ := (show ObjOk X.prog X.w H s.heap l (.lst xs) from I.hok l _ (hl _ _ h0))
  refine wpAny_bind (wpAny_contains_slot ⟨_, e0, rfl⟩ PySem.F.slot_list_contains (GQ.call_here PySem.F.slot_list_contains ⟨_, e0, rfl⟩ PySem.F.entry_list_contains (PySem.F.args_list_contains_2 _ _) ?_))
  refine con_list l v xs.length res (fun i s' => ∃ H', Inv X pins σ H' s' ∧ P i H') (fun i s' hI => ?_) (fun i s' hi hr hI => ?_) (fun hno s' hI => ?_) ⟨H, I, h0⟩
  · obtain ⟨H', I', p⟩ := hI
    obtain ⟨_, its', n', r', e'⟩ := (show ObjOk X.prog X.w H' s'.heap l (.lst xs) from I'.hok l _ (hl _ _ p))
    have hsz : its'.toArray.size = xs.length := by rw [r'.length]; simp
    refine ⟨its'.toArray, n', e', hsz, fun h1 => ?_⟩
    have hi : i < xs.length := by omega
    obtain ⟨u, hu, ru⟩ := r'.get (i := i) (List.getElem?_eq_getElem hi)
    have eu : its'.toArray[i] = u := by
      obtain ⟨_, e2⟩ := List.getElem?_eq_some_iff.mp hu
      simpa using e2
    rw [eu]
    exact wpAny_mono (ht i _ H' (List.getElem?_eq_getElem hi) p pins σ s' u v I' ru rx) (fun r s2 ⟨H2, I2, er, p2⟩ => ⟨er, H2, I2, p2⟩) fun _ _ z => z
  · obtain ⟨H', I', p⟩ := hI
    exact wpAny_truthy_bool (wpAny_pure ⟨.bl true, H', I', rfl, hT i H' hi hr p⟩)
  · obtain ⟨H', I', p⟩ := hI
    exact wpAny_truthy_bool (wpAny_pure ⟨.bl false, H', I', rfl, hF hno H' p⟩)
theorem op_notInL : OpR X (compareOp .NotIn) (rInL X true) := by
  intro pins s σ H x y v u Q I rx ry h
  obtain ⟨l, xs, res, P, rfl, h0, hl, ht, hT, hF⟩ := h
  cases (show u = Value.ref l from ry)
  obtain ⟨_, its, n, _, e0⟩ := (show ObjOk X.prog X.w H s.heap l (.lst xs) from I.hok l _ (hl _ _ h0))
  refine wpAny_bind (wpAny_contains_slot ⟨_, e0, rfl⟩ PySem.F.slot_list_contains (GQ.call_here PySem.F.slot_list_contains ⟨_, e0, rfl⟩ PySem.F.entry_list_contains (PySem.F.args_list_contains_2 _ _) ?_))
  refine con_list l v xs.length res (fun i s' => ∃ H', Inv X pins σ H' s' ∧ P i H') (fun i s' hI => ?_) (fun i s' hi hr hI => ?_) (fun hno s' hI => ?_) ⟨H, I, h0⟩
  · obtain ⟨H', I', p⟩ := hI
    obtain ⟨_, its', n', r', e'⟩ := (show ObjOk X.prog X.w H' s'.heap l (.lst xs) from I'.hok l _ (hl _ _ p))
    have hsz : its'.toArray.size = xs.length := by rw [r'.length]; simp
    refine ⟨its'.toArray, n', e', hsz, fun h1 => ?_⟩
    have hi : i < xs.length := by omega
    obtain ⟨u, hu, ru⟩ := r'.get (i := i) (List.getElem?_eq_getElem hi)
    have eu : its'.toArray[i] = u := by
      obtain ⟨_, e2⟩ := List.getElem?_eq_some_iff.mp hu
      simpa using e2
    rw [eu]
    exact wpAny_mono (ht i _ H' (List.getElem?_eq_getElem hi) p pins σ s' u v I' ru rx) (fun r s2 ⟨H2, I2, er, p2⟩ => ⟨er, H2, I2, p2⟩) fun _ _ z => z
  · obtain ⟨H', I', p⟩ := hI
    exact wpAny_truthy_bool (wpAny_pure ⟨.bl false, H', I', rfl, hT i H' hi hr p⟩)
  · obtain ⟨H', I', p⟩ := hI
    exact wpAny_truthy_bool (wpAny_pure ⟨.bl true, H', I', rfl, hF hno H' p⟩)
/-- l.count(b), a list of bools -/
def eqBk (k : Bool) : Value → Bool
  | .bool b => b == k
  | _ => false
theorem bools_of_vals : ∀ {bs : List Bool} {us : List Value}, Vals (bs.map V.bl) us → us = bs.map Value.bool
  | [], _, .nil => rfl
  | b :: bs, _, .cons (b := u) r t => by
    rw [bools_of_vals t]
    cases (show u = Value.bool b from r)
    rfl
theorem mt_countB : MtR X "list.count" (fun x xs H Q => ∃ (p : Addr) (bs : List Bool) (k : Bool), x = .ref p ∧ xs = [.bl k] ∧ SqL X.K H p (bs.map V.bl) ∧ Q (.int (bs.count k : Nat)) H) := by
  intro pins s σ H x xs v us Q I rx rxs h
  obtain ⟨p, bs, k, rfl, rfl, hs, q⟩ := h
  cases rx
  obtain ⟨u, rfl, ru⟩ := rxs.one
  cases (show u = Value.bool k from ru)
  obtain ⟨its, rv, ⟨⟨cls, dd, data, sl⟩, n, ho, hc, hdn, hd⟩, hlen⟩ := I.list hs
  simp only at hc hd
  subst hc hd
  have hi := bools_of_vals rv
  subst hi
  refine call_meets PySem.F.slot_list_count ⟨_, ho, rfl⟩ PySem.F.entry_list_count (PySem.F.args_list_count_2 _ _)
    (SeqAt.list_countAt p _ n dd sl (.bool k) (eqBk k)) ⟨ho, fun y hy => ?_, ?_⟩
  · obtain ⟨b, _, rfl⟩ : ∃ b, b ∈ bs ∧ Value.bool b = y := by simpa using hy
    exact SeqAt.EqAt.bool_bool b k
  · have ec : ((bs.map Value.bool).toArray.toList.countP (eqBk k)) = bs.count k := by
      rw [List.toList_toArray, List.countP_map]
      rfl
    refine ⟨.int (bs.count k : Nat), H, I.tok _, ⟨s.toks, ?_⟩, q⟩
    show Value.int (((bs.map Value.bool).toArray.toList.countP (eqBk k) : Nat) : Int) s.toks = _
    rw [ec]
end
end Own

namespace Own
open PySem
open PySem.Sem (wp)
theorem meets_bool_tup (l : Addr) (items : Array Value) (hfit : (items.size : Int) < 2 ^ 63) :
    Meets (Builtin.«bool.__new__» ⟨[.type "bool", .ref l], []⟩) (fun _ R s => PyProof.Rows.IsTup s.heap l items ∧ R (.ok (.ret (.bool (!items.isEmpty)))) { s with toks := s.toks + 1 + 1 }) :=
  Meets.of_wp fun prog w A R s hs => by
    obtain ⟨hl, hs⟩ := hs
    obtain ⟨hp, g, d, tk, os⟩ := s
    have f1 := F.conv_sub_bool
    repeat (any_goals (first | assumption | (with_reducible refine PyProof.Rows.truthy_tuple hl hfit ?_) | wp_step))
    all_goals first | exact ⟨_, rfl, hs⟩ | exact hs | skip
open PySem PySem.Spec PyProof.Rows L2
section
variable {X : Cx}
theorem call_boolT : CallR X (.type "bool") (fun xs H Q => ∃ (a : Addr) (zs : List V), xs = [.ref a] ∧ SqT X.K H a zs ∧ Q (.bl (!zs.isEmpty)) H) := by
  intro pins s σ H xs us Q I r h
  obtain ⟨a, zs, rfl, hq, q⟩ := h
  obtain rfl := Vals.ref1 r
  obtain ⟨its, rv, pl, hz⟩ := I.tuple hq
  have hl := line63
  have hlen := rv.length
  refine call_bool_1 (meets_bool_tup _ _ (by simp only [List.size_toArray]; omega)) ⟨pl, rfl, ?_⟩
  exact ⟨.bl (!zs.isEmpty), H, I.tok _, by rw [isEmpty_of rv]; rfl, q⟩
end
/-- the truth of a value, as a test's reading that has a name -/
def tTru (K : PySem.W.Frag) (ta : TE) : TT := fun σ H Q => ta σ H fun x H' => ∃ k, TruV K x H' k ∧ Q k H'
/-! ### data of texts -/
theorem dp_strs {K : PySem.W.Frag} {H : Hp} : ∀ ns : List Str, DpAll K H (ns.map V.str) (ns.map PyData.str)
  | [] => .nil
  | n :: ns => .cons (.str n) (dp_strs ns)
theorem lay_strs : ∀ ns : List Str, (∀ n ∈ ns, PyData.strOk n = true) → PyData.canLayAll0 (ns.map PyData.str) = true
  | [], _ => rfl
  | n :: ns, h => by
    show (PyData.canLay0 (.str n) && PyData.canLayAll0 (ns.map PyData.str)) = true
    rw [lay_strs ns fun m hm => h m (List.mem_cons_of_mem _ hm)]
    simp [PyData.canLay0, h n List.mem_cons_self]
theorem depth_strs : ∀ ns : List Str, PyData.depthAll (ns.map PyData.str) ≤ 1
  | [] => by simp [PyData.depthAll]
  | n :: ns => by
    have := depth_strs ns
    simp only [List.map_cons, PyData.depthAll, PyData.depth]
    omega
theorem shaped_strs (ns : List Str) (h : ∀ n ∈ ns, PyData.strOk n = true) : SeqAt.shaped (.tuple (ns.map PyData.str)) = true := by
  unfold SeqAt.shaped
  have h1 : PyData.canLay0 (.tuple (ns.map PyData.str)) = true := lay_strs ns h
  have h2 : (PyData.tuple (ns.map PyData.str)).depth ≤ 64 := by
    have := depth_strs ns
    simp only [PyData.depth]
    omega
  rw [h1, decide_eq_true h2]
  rfl
theorem eqv_strsAll : ∀ ns ms : List Str, PyData.eqvAll (ns.map PyData.str) (ms.map PyData.str) = decide (ns = ms)
  | [], [] => by simp [PyData.eqvAll]
  | [], _ :: _ => by simp [PyData.eqvAll]
  | _ :: _, [] => by simp [PyData.eqvAll]
  | n :: ns, m :: ms => by
    simp only [List.map_cons, PyData.eqvAll, PyData.eqv, eqv_strsAll ns ms]
    by_cases e : n = m <;> simp [e]
theorem eqv_strs (ns ms : List Str) : PyData.eqv (.tuple (ns.map PyData.str)) (.tuple (ms.map PyData.str)) = decide (ns = ms) := by
  show PyData.eqvAll _ _ = _
  exact eqv_strsAll ns ms
end Own

namespace Pl
open PySem L2 Own TL PyProof
/-! ### names by the methods of texts -/
def SIGNS : Str := "abcdefghijklmnopqrstuvwxyz0123456789"
def low1 (c : Nat) : Nat := if 65 ≤ c ∧ c ≤ 90 then c + 32 else c
theorem lower_ascii : ∀ c, c < 128 → Unicode.lowerOf c = [low1 c] := by decide +kernel
theorem alnum_low : ∀ c, c < 128 → (Unicode.isAlnum c = true ∧ low1 c = c ↔ c ∈ tl SIGNS) := by decide +kernel
theorem signs_lt : ∀ c, c ∈ tl SIGNS → c < 128 := by decide +kernel
theorem flat_single : ∀ (l : List Nat), (l.map fun c => [c]).flatten = l
  | [] => rfl
  | a :: l => by rw [List.map_cons, List.flatten_cons, flat_single l]; rfl
theorem lower_of {s : Str} (h : Txt.isascii s = true) : (Txt.lower s).cps = (s.cps.map low1) := by
  unfold Txt.isascii at h
  rw [Array.all_eq_true] at h
  show placed s _ = _
  unfold placed
  have e : (s.cps.mapIdx fun i c => (Unicode.lowerAt s.cps i).toArray) = s.cps.map fun c => #[low1 c] := by
    apply Array.ext
    · simp
    · intro i h1 h2
      simp only [Array.getElem_mapIdx, Array.getElem_map]
      have hi : i < s.cps.size := by simpa using h1
      have hc := h i hi
      have hc : s.cps[i] < 128 := of_decide_eq_true hc
      unfold Unicode.lowerAt
      rw [Array.getElem?_eq_getElem hi]
      dsimp only
      rw [show (s.cps[i] == 0x3A3) = false from beq_eq_false_iff_ne.mpr (by omega)]
      simp only [Bool.false_and, Bool.false_eq_true, if_false]
      rw [lower_ascii _ hc]
  rw [e]
  apply Array.ext'
  rw [Array.toList_flatten, Array.toList_map, Array.toList_map, List.map_map]
  have := flat_single (s.cps.toList.map low1)
  rw [List.map_map] at this
  exact this
theorem str_ext {s t : Str} (h : s.cps = t.cps) : s = t := by
  cases s; cases t; cases h; rfl
/-- what is_name looks at, behind the length -/
theorem name_look {s : Str} (h0 : 0 < s.length) : (Txt.isascii s && (Txt.isalnum s && decide (s = Txt.lower s))) = (tl s).all fun c => decide (c ∈ tl SIGNS) := by
  cases ha : Txt.isascii s with
  | false =>
    refine Eq.symm ?_
    rw [Bool.false_and]
    cases e : (tl s).all fun c => decide (c ∈ tl SIGNS) with
    | false => rfl
    | true =>
      rw [List.all_eq_true] at e
      unfold Txt.isascii at ha
      have : (s.cps.all fun x => decide (x < 128)) = true := by
        rw [Array.all_eq_true']
        intro c hc
        have := e c (by simpa [tl] using hc)
        exact decide_eq_true (signs_lt c (of_decide_eq_true this))
      rw [this] at ha
      cases ha
  | true =>
    have lo := lower_of ha
    unfold Txt.isascii at ha
    rw [Array.all_eq_true'] at ha
    have l128 : ∀ c, c ∈ tl s → c < 128 := fun c hc => of_decide_eq_true (ha c (by simpa [tl] using hc))
    rw [Bool.true_and]
    have e1 : Txt.isalnum s = (tl s).all Unicode.isAlnum := by
      show (decide (s.length > 0) && s.cps.all Unicode.isAlnum) = _
      rw [decide_eq_true h0, Bool.true_and]
      simp [tl]
    have e2 : decide (s = Txt.lower s) = (tl s).all fun c => decide (low1 c = c) := by
      cases e : (tl s).all fun c => decide (low1 c = c) with
      | true =>
        rw [List.all_eq_true] at e
        refine decide_eq_true (str_ext ?_)
        rw [lo]
        apply Array.ext'
        rw [Array.toList_map]
        have : s.cps.toList.map low1 = s.cps.toList.map id := List.map_congr_left fun c hc => of_decide_eq_true (e c hc)
        rw [this, List.map_id]
      | false =>
        refine decide_eq_false fun q => ?_
        have z : s.cps.toList.map low1 = s.cps.toList := by
          have e3 : s.cps = (Txt.lower s).cps := congrArg (fun t : Str => t.cps) q
          rw [lo] at e3
          have e4 := congrArg Array.toList e3
          rw [Array.toList_map] at e4
          exact e4.symm
        have y : ((tl s).all fun c => decide (low1 c = c)) = true := by
          rw [List.all_eq_true]
          intro c hc
          refine decide_eq_true ?_
          have : ∀ (l : List Nat), l.map low1 = l → ∀ c ∈ l, low1 c = c := by
            intro l
            induction l with
            | nil => intro _ c hc; cases hc
            | cons a l ih =>
              intro e c hc
              rw [List.map_cons] at e
              injection e with e1 e2
              cases hc with
              | head => exact e1
              | tail _ hc => exact ih e2 c hc
          exact this _ z c hc
        rw [y] at e
        cases e
    rw [e1, e2]
    have : ∀ l : List Nat, (∀ c ∈ l, c < 128) → (l.all Unicode.isAlnum && l.all fun c => decide (low1 c = c)) = l.all fun c => decide (c ∈ tl SIGNS) := by
      intro l
      induction l with
      | nil => intro _; rfl
      | cons a l ih =>
        intro h
        rw [List.all_cons, List.all_cons, List.all_cons, ← ih fun c hc => h c (List.mem_cons_of_mem _ hc)]
        have := alnum_low a (h a List.mem_cons_self)
        have e : decide (a ∈ tl SIGNS) = (Unicode.isAlnum a && decide (low1 a = a)) := by
          rw [← Bool.decide_eq_true (b := Unicode.isAlnum a), ← Bool.decide_and]
          exact decide_eq_decide.mpr this.symm
        rw [e]
        cases Unicode.isAlnum a <;> cases decide (low1 a = a) <;> cases l.all Unicode.isAlnum <;> rfl
    exact this _ l128
end Pl

open PySem L2
namespace Own
theorem kit_self {K : PySem.W.Frag} {C : Addr} (ht : PySem.W.typeIn K (.ref C) = some (.type "type")) (hm : PySem.W.mroIn K C (.ref C) = some true) : PySem.W.kitOne K (.ref C) (.ref C) = some true := by
  unfold PySem.W.kitOne
  by_cases e : (Value.ref C == Value.ref C) = true
  · rw [if_pos e]
  · rw [if_neg e]
    unfold PySem.W.kitCls
    have hc : (PySem.W.clsIn K C).isSome = true := by
      unfold PySem.W.mroIn at hm
      cases e : PySem.W.clsIn K C with
      | none =>
        rw [e] at hm
        cases hm
      | some _ => rfl
    show (if _ then _ else _) = _
    rw [if_pos (by
      rw [hc, ht]
      decide)]
    exact hm
theorem kit_tyC {K : PySem.W.Frag} {C : Addr} {b : Bool} {T : String} (ht : PySem.W.typeIn K (.ref C) = some (.type "type")) (hm : PySem.W.mroIn K C (.type "object") = some b) (hs : PySem.W.subIn K (.type T) (.ref C) = some false) :
    PySem.W.kitOne K (.type T) (.ref C) = some false := by
  unfold PySem.W.kitOne
  rw [if_neg (by
    intro z
    exact absurd z (by show ¬ (false = true); decide))]
  unfold PySem.W.kitCls
  have hc : (PySem.W.clsIn K C).isSome = true := by
    unfold PySem.W.mroIn at hm
    cases e : PySem.W.clsIn K C with
    | none =>
      rw [e] at hm
      cases hm
    | some _ => rfl
  show (if _ then _ else _) = _
  rw [if_pos (by
    rw [hc, ht]
    decide)]
  exact hs
theorem kit_Cty {K : PySem.W.Frag} {C : Addr} {T : String} {b : Bool} (hk : PySem.W.kitMeta T = true) (hs : PySem.W.mroIn K C (.type T) = some b) :
    PySem.W.kitOne K (.ref C) (.type T) = some b := by
  unfold PySem.W.kitOne
  rw [if_neg (by
    intro z
    exact absurd z (by show ¬ (false = true); decide))]
  unfold PySem.W.kitCls
  show (if _ then _ else _) = _
  rw [if_pos hk]
  exact hs
theorem sub_strC {K : PySem.W.Frag} {C : Addr} : PySem.W.subIn K (.type "str") (.ref C) = some false := by
  rfl
end Own

namespace Pl
open PySem L2 Own TL
def top (i : Nat) : Stmt := PySem.Challenge.pw_nearestsays_k05_whole_places_meet.main.body.getD i (.Pass ⟨0, 0, 0, 0⟩)
abbrev sIsInt : Stmt := top 7
abbrev sIsName : Stmt := top 8
abbrev sPText : Stmt := top 9
abbrev sIsPlace : Stmt := top 10
abbrev sPlace : Stmt := top 11
abbrev sInit : Stmt := inClass sPlace 1
abbrev sRead : Stmt := inClass sPlace 2
abbrev sOf : Stmt := inClass sPlace 3
abbrev sNames : Stmt := inClass sPlace 4
abbrev sText : Stmt := inClass sPlace 5
abbrev sUp : Stmt := inClass sPlace 6
abbrev sAdd : Stmt := inClass sPlace 7
abbrev sHead : Stmt := inClass sPlace 8
abbrev sCont : Stmt := inClass sPlace 9
abbrev sAnd : Stmt := inClass sPlace 10
abbrev sLen : Stmt := inClass sPlace 11
abbrev sBool : Stmt := inClass sPlace 12
abbrev sEq : Stmt := inClass sPlace 15
abbrev sAhead : Stmt := inClass sPlace 16
/-! ### names -/
def okN (s : Str) : Bool := decide (0 < s.length) && decide (s.length ≤ 8) && (tl s).all fun c => decide (c ∈ tl SIGNS)
def isNm : V → Bool
  | .str s => okN s
  | _ => false
/-- what stands of the builtins' names in the module -/
structure BT (mg : Str → Option Value) : Prop where
  isi : mg "isinstance" = none
  int : mg "int" = none
  bool : mg "bool" = none
  str : mg "str" = none
  len : mg "len" = none
  all : mg "all" = none
  zip : mg "zip" = none
  range : mg "range" = none
  enum : mg "enumerate" = none
  list : mg "list" = none
  abs : mg "abs" = none
structure GT (mg : Str → Option Value) : Prop where
  b : BT mg
  longest : ∃ t, mg "LONGEST_NAME" = some (.int 8 t)
/-! ### promises -/
def spIsInt (K : PySem.W.Frag) : Sp := fun vs H Q _ => ∃ x t b1 b2, vs = [x] ∧ TyX K H x t ∧ PySem.W.kitOne K t (.type "int") = some b1 ∧ PySem.W.kitOne K t (.type "bool") = some b2 ∧ Q (.bl (b1 && !b2)) H
def spIsName (K : PySem.W.Frag) : Sp := fun vs H Q _ => ∃ x, vs = [x] ∧ ((∃ s, x = .str s ∧ s.length ≤ sizeLine) ∨ (∃ t, TyX K H x t ∧ PySem.W.kitOne K t (.type "str") = some false ∧ isNm x = false)) ∧
  ∀ H', Same H H' → Q (.bl (isNm x)) H'
section
variable {P : Program} {w : World} {K : PySem.W.Frag} {mg : Str → Option Value} {base : Heap}
theorem scIsInt : FnScope ["value"] ["value"] (defScope sIsInt) := ⟨rfl, rfl, rfl, by decide +kernel, rfl, by decide +kernel, by decide +kernel⟩
theorem ok_isInt {f : Addr} {fd : FuncData} (F : Fun K "is_integer" "is_integer" sIsInt f fd) (T : BT mg) : FnOk P w K mg base CX0 1 f fd ["value"] (spIsInt K) := by
  refine F.ok scIsInt (fun vs H Q E h => ?_) (fun cdv A outer s H vs Q E hr h => ?_)
  · obtain ⟨x, t, b1, b2, rfl, _⟩ := h
    rfl
  · obtain ⟨x, t, b1, b2, rfl, ty, k1, k2, q⟩ := h
    refine ⟨_, pss_one (ps_ret (pe_and (pe_callB call_isi (by rfl) T.isi (by decide +kernel) (pa_cons (pv 0) (pa_cons (pe_bltn (v := .ty "int") (by rfl) T.int (by decide +kernel) rfl) pa_nil)))
      (pe_one (pe_not (pe_callB call_isi (by rfl) T.isi (by decide +kernel) (pa_cons (pv 0) (pa_cons (pe_bltn (v := .ty "bool") (by rfl) T.bool (by decide +kernel) rfl) pa_nil))))))), ?_⟩
    refine ⟨_, rfl, x, _, t, _, b1, rfl, .ty "int", ty, k1, b1, rfl, ?_⟩
    cases b1 with
    | true => exact iteT ⟨_, rfl, x, _, t, _, b2, rfl, .ty "bool", ty, k2, b2, rfl, q⟩
    | false => exact iteF q
theorem scIsName : FnScope ["value"] ["value"] (defScope sIsName) := ⟨rfl, rfl, rfl, by decide +kernel, rfl, by decide +kernel, by decide +kernel⟩
theorem ok_isName {f : Addr} {fd : FuncData} (F : Fun K "is_name" "is_name" sIsName f fd) (T : GT mg) : FnOk P w K mg base CX0 1 f fd ["value"] (spIsName K) := by
  refine F.ok scIsName (fun vs H Q E h => ?_) (fun cdv A outer s H vs Q E hr h => ?_)
  · obtain ⟨x, rfl, _⟩ := h
    rfl
  · obtain ⟨x, rfl, hx, q⟩ := h
    obtain ⟨tl8, h8⟩ := T.longest
    refine ⟨_, pss_cons (ps_if (PW.pt (pw_or (pt_not (pt_val (pe_callB call_isi (by rfl) T.b.isi (by decide +kernel) (pa_cons (pv 0) (pa_cons (pe_bltn (v := .ty "str") (by rfl) T.b.str (by decide +kernel) rfl) pa_nil)))))
        (pw_or1 (pt_not (pt_chain op_lt op_le pe_int (pe_callB call_len_str (by rfl) T.b.len PySem.boot_len (pa_cons (pv 0) pa_nil)) (pe_glob (v := .int 8) (by rfl) h8 ⟨_, rfl⟩))))))
        (pss_one (ps_ret pe_bl)) pss_nil)
      (pss_one (ps_ret (pe_and (pe_bm0 PySem.F.plainAttrs_str PySem.F.slot_str_isascii PySem.F.type_str_isascii mt_isascii (pv 0))
        (pe_and (pe_bm0 PySem.F.plainAttrs_str PySem.F.slot_str_isalnum PySem.F.type_str_isalnum mt_isalnum (pv 0))
        (pe_one (pe_cmpR op_eq (pv 0) (pe_bm0 PySem.F.plainAttrs_str PySem.F.slot_str_lower PySem.F.type_str_lower mt_lower (pv 0)) (nomark _))))))), ?_⟩
    rcases hx with ⟨z, rfl, hz⟩ | ⟨t, ty, kt, nz⟩
    · refine ⟨_, rfl, _, _, _, _, true, rfl, .ty "str", .base (.str z), kit_ty (by decide +kernel), true, rfl, ?_⟩
      refine iteF ?_
      refine ⟨_, rfl, z, rfl, hz, _, _, rfl, rfl, _, rfl, ite2 (fun h0 => ?_) (fun h0 => ?_)⟩
      · refine ⟨_, _, rfl, rfl, _, rfl, ite2 (fun h1 => ?_) (fun h1 => ?_)⟩
        · have e := q H (Same.refl H)
          have e2 : isNm (V.str z) = false := by
            show okN z = false
            unfold okN
            simp only [Bool.not_eq_true', decide_eq_false_iff_not] at h1
            rw [decide_eq_false (p := z.length ≤ 8) (by omega)]
            simp
          rw [e2] at e
          exact e
        · have e := q H (Same.refl H)
          simp only [decide_eq_true_eq] at h0
          simp only [Bool.not_eq_true', decide_eq_false_iff_not, Decidable.not_not] at h1
          have h1' : z.length ≤ 8 := by
            have := of_decide_eq_true (by simpa using h1 : decide ((z.length : Int) ≤ 8) = true)
            omega
          have h0' : 0 < z.length := by omega
          have e2 : isNm (V.str z) = (Txt.isascii z && (Txt.isalnum z && decide (z = Txt.lower z))) := by
            show okN z = _
            unfold okN
            rw [decide_eq_true h0', decide_eq_true h1', Bool.true_and, Bool.true_and, name_look h0']
          rw [e2] at e
          have l6 : z.length ≤ 5592405 := by omega
          refine ⟨_, rfl, rfl, z, rfl, rfl, trivial, _, rfl, ?_⟩
          cases c1 : Txt.isascii z with
          | false =>
            rw [c1] at e
            exact iteF e
          | true =>
            rw [c1] at e
            refine iteT ⟨_, rfl, rfl, z, rfl, rfl, trivial, _, rfl, ?_⟩
            cases c2 : Txt.isalnum z with
            | false =>
              rw [c2] at e
              exact iteF e
            | true =>
              rw [c2] at e
              refine iteT ⟨_, rfl, _, rfl, rfl, z, rfl, rfl, l6, rfl, ?_⟩
              have e3 : decide (V.str z = V.str (Txt.lower z)) = decide (z = Txt.lower z) := decide_eq_decide.mpr ⟨fun h => V.str.inj h, fun h => by rw [← h]⟩
              rw [e3]
              exact e
      · have e := q H (Same.refl H)
        have e2 : isNm (V.str z) = false := by
          show okN z = false
          unfold okN
          simp only [decide_eq_true_eq] at h0
          rw [decide_eq_false (p := 0 < z.length) (by omega)]
          rfl
        rw [e2] at e
        exact ⟨_, rfl, e⟩
    · refine ⟨_, rfl, x, _, t, _, false, rfl, .ty "str", ty, kt, false, rfl, ?_⟩
      refine iteT (iteT ?_)
      have e := q H (Same.refl H)
      rw [nz] at e
      exact e
end
end Pl

namespace Pl
open PySem L2 Own TL
/-! ### places -/
theorem nl1 : ¬ (("x" : Str) = "_names") := by decide +kernel
def pf (t : Addr) : List (Str × V) := putF "_names" (.ref t) []
theorem pf_at (t : Addr) : (pf t).lookup ("_names" : Str) = some (.ref t) := by
  unfold pf
  rw [lookup_putF, if_pos rfl]
theorem pf_no (t : Addr) {m : Str} (h : ¬ m = "_names") : (pf t).lookup m = none := by
  unfold pf
  rw [lookup_putF, if_neg h]
  all_goals rfl
/-- a place with these names stands at p -/
def PlA (C : Addr) (H : Hp) (p : Addr) (ns : List Str) : Prop := ∃ dx t, H p = some (.ins C dx (pf t)) ∧ H t = some (.tup (ns.map V.str))
theorem PlA.mono {C : Addr} {H H' : Hp} {p : Addr} {ns : List Str} (h : PlA C H p ns) (s : Same H H') : PlA C H' p ns := by
  obtain ⟨dx, t, a, b⟩ := h
  exact ⟨dx, t, s _ _ a, s _ _ b⟩
theorem ok_str {s : Str} (h : okN s = true) : PyData.strOk s = true := by
  unfold okN at h
  simp only [Bool.and_eq_true, decide_eq_true_eq, List.all_eq_true] at h
  have a : ∀ c ∈ tl SIGNS, c < 0x110000 := by decide +kernel
  unfold PyData.strOk
  rw [Array.all_eq_true']
  intro c hc
  exact decide_eq_true (a c (h.2 c (by simpa [tl] using hc)))
def Nms (ns : List Str) : Prop := ns.length ≤ 8 ∧ ∀ n ∈ ns, okN n = true
theorem okN_len {s : Str} (h : okN s = true) : 0 < s.length ∧ s.length ≤ 8 := by
  unfold okN at h
  simp only [Bool.and_eq_true, decide_eq_true_eq] at h
  exact h.1
theorem Nms.take {ns : List Str} (h : Nms ns) (k : Nat) : Nms (ns.take k) :=
  ⟨by
    have h1 := h.1
    rw [List.length_take]
    omega, fun n hn => h.2 n (List.mem_of_mem_take hn)⟩
theorem small8 {n : Nat} (h : n ≤ 10) : n ≤ sizeLine := Nat.le_trans h (by decide)
/-- facts of the class -/
structure CT (K : PySem.W.Frag) (mg : Str → Option Value) (C : Addr) (mc : Value) : Prop where
  cl : Cls K C
  nN : NoAttr K C "_names"
  mgC : mg "Place" = some (.ref C)
  rd : ClX.CRead K C mc
  most : ∃ u, ClX.CVal K C mc "MOST" (.int 8) u
  most2 : ∃ u, Con K C "MOST" (.int 8) u
  ha : PySem.W.findIn K (.ref C) "__class__" = some (some (.builtin "object.__class__"))
  hn : PySem.W.specialIn K (.builtin "object.__class__") "__get__" = some (some (.builtin "getset_descriptor.__get__"))
  htk : PySem.W.takesIn K (.builtin "object.__class__") = some true
  hm : PySem.W.mroIn K C (.type "object") = some true
  kS : PySem.W.kitOne K (.type "str") (.ref C) = some false
  kC : PySem.W.kitOne K (.ref C) (.ref C) = some true
  kCs : PySem.W.kitOne K (.ref C) (.type "str") = some false
theorem PlA.ty {K : PySem.W.Frag} {mg : Str → Option Value} {C : Addr} {mc : Value} (T : CT K mg C mc) {H : Hp} {p : Addr} {ns : List Str} (h : PlA C H p ns) : TyX K H (.ref p) (.ref C) := by
  obtain ⟨dx, t, a, b⟩ := h
  exact .base (.ins a T.cl T.ha T.hn T.htk T.hm)
/-! ### __init__ -/
def spInit (C : Addr) : Sp := fun vs H Q _ => ∃ (p dx t : Addr) (ns : List Str), vs = [.ref p, .ref t] ∧ H p = some (.ins C dx []) ∧ H t = some (.tup (ns.map V.str)) ∧ Nms ns ∧
  ∀ H', H' p = some (.ins C dx (pf t)) → (∀ b o, H b = some o → b ≠ p → H' b = some o) → Q .non H'
def spMk (C : Addr) : Sp := fun vs H Q E => ∃ v rest, vs = v :: rest ∧ rest.length ≤ 10 ∧ ∀ p, H p = none → spInit C [v, .ref p] (upd H p (.tup rest)) Q E
theorem make_ok {C : Addr} {H1 : Hp} {Q : VK} {E : XK} {ns : List Str} (hn : Nms ns) (k : ∀ p H', Same H1 H' → PlA C H' p ns → Q (.ref p) H') :
    ∀ x dx, H1 x = none → H1 dx = none → dx ≠ x → spMk C (V.ref x :: ns.map V.str) (upd (upd H1 dx (.own x)) x (.ins C dx [])) (fun v H2 => v = .non ∧ Q (.ref x) H2) E := by
  intro x dx hx hdx hne
  refine ⟨_, _, rfl, by rw [List.length_map]; exact Nat.le_trans hn.1 (by decide), fun t ht => ?_⟩
  have ntx : x ≠ t := fun e => by
    rw [← e, upd_same] at ht
    cases ht
  have ht1 : H1 t = none := by
    rw [upd_ne ntx.symm] at ht
    by_cases e : t = dx
    · rw [e]
      exact hdx
    · rw [upd_ne e] at ht
      exact ht
  refine ⟨x, dx, t, ns, rfl, by rw [upd_ne ntx]; exact upd_same, upd_same, hn, fun H' h1 h2 => ⟨rfl, k x H' (fun b o hb => ?_) ⟨dx, t, h1, h2 t _ upd_same ntx.symm⟩⟩⟩
  have nb1 : b ≠ x := ne_of_none hb hx
  refine h2 b o ?_ nb1
  rw [upd_ne (ne_of_none hb ht1), upd_ne nb1, upd_ne (ne_of_none hb hdx)]
  exact hb
/-- the same at one address, what follows as a word of the heap alone -/
theorem make_at {C : Addr} {H1 : Hp} {R : Hp → Prop} {E : XK} {ns : List Str} (hn : Nms ns) {x dx : Addr} (hx : H1 x = none) (hdx : H1 dx = none) (hne : dx ≠ x) (k : ∀ H', Same H1 H' → PlA C H' x ns → R H') :
    spMk C (V.ref x :: ns.map V.str) (upd (upd H1 dx (.own x)) x (.ins C dx [])) (fun v H2 => v = .non ∧ R H2) E := by
  have z := make_ok (C := C) (H1 := H1) (Q := fun v H' => v = .ref x → R H') (E := E) hn (fun p H' s P e => ?_) x dx hx hdx hne
  · obtain ⟨v, rest, e, hl, h⟩ := z
    refine ⟨v, rest, e, hl, fun p hp => ?_⟩
    obtain ⟨p', dx', t, ns', e1, h1, h2, h3, h4⟩ := h p hp
    exact ⟨p', dx', t, ns', e1, h1, h2, h3, fun H' g1 g2 => ⟨(h4 H' g1 g2).1, (h4 H' g1 g2).2 rfl⟩⟩
  · injection e with e
    subst e
    exact k H' s P
section
variable {P : Program} {w : World} {K : PySem.W.Frag} {mg : Str → Option Value} {base : Heap}
theorem scInit : FnScope ["self", "names", "name"] ["self", "names"] (defScope sInit) := ⟨rfl, rfl, rfl, by decide +kernel, rfl, by decide +kernel, by decide +kernel⟩
theorem ok_init {f C fN : Addr} {mc : Value} {fd fdN : FuncData} (F : Fun K "__init__" "Place.__init__" sInit f fd) (T : GT mg) (U : CT K mg C mc) (FN : Fun K "is_name" "is_name" sIsName fN fdN) (bN : Binds K fdN ["value"] []) (mN : mg "is_name" = some (.ref fN)) :
    FnR P w K mg base CX0 2 f (spMk C) := by
  have GN : FnOk P w K mg base CX0 1 fN fdN ["value"] (spIsName K) := ok_isName FN T
  obtain ⟨oc, od, kV, doc, pm, an, cdv, ct, osl, rfl, lk, hcd⟩ := F.ex
  refine fn_ofV (nmax := 10) (sp := spInit C) lk hcd scInit (by decide) (fun u rest hl => ?_) (fun _ _ _ _ _ _ _ _ _ _ _ _ z => z) (fun A outer s H vs Q E hr h => ?_)
  · match rest, hl with
    | [], _ => rfl
    | [_], _ => rfl
    | [_, _], _ => rfl
    | [_, _, _], _ => rfl
    | [_, _, _, _], _ => rfl
    | [_, _, _, _, _], _ => rfl
    | [_, _, _, _, _, _], _ => rfl
    | [_, _, _, _, _, _, _], _ => rfl
    | [_, _, _, _, _, _, _, _], _ => rfl
    | [_, _, _, _, _, _, _, _, _], _ => rfl
    | [_, _, _, _, _, _, _, _, _, _], _ => rfl
    | _ :: _ :: _ :: _ :: _ :: _ :: _ :: _ :: _ :: _ :: _ :: r, h => exact absurd h (by simp only [List.length_cons]; omega)
  · obtain ⟨p, dx, t, ns, rfl, hp, ht, hn, k⟩ := h
    obtain ⟨um, cm⟩ := U.most2
    have npt : p ≠ t := ne_of hp ht (by intro z; cases z)
    refine ⟨_, PSs.nox (pss_cons (ps_for PassesOwn.never rfl (pi_tup (pv 1)) (pg_name (i := 2) scInit.nd rfl (Or.inl rfl))
        (pss_one (ps_if (pt_not (pt_val (pe_call GN hr (by rfl) mN FN.kp bN .nil pass0 (pa_cons (pv 2) pa_nil)))) (pss_one ps_never) pss_nil)))
      (pss_cons (ps_if (pt_cmpR op_gt (pe_callB call_len_seq (by rfl) T.b.len PySem.boot_len (pa_cons (pv 1) pa_nil)) (pe_con (pv 0) rfl) (nomark _)) (pss_one ps_never) pss_nil)
      (pss_one (ps_fld (pv 0) (pv 1) rfl)))), ?_⟩
    refine ⟨_, rfl, t, rfl, ⟨_, SqT.of ht⟩, for_it walk_tup (fun i σ H' => Same H H' ∧ ∃ v, σ = [some (.ref p), some (.ref t), v]) ⟨Same.refl H, none, rfl⟩ (fun i σ H' _ e => SqT.of (e.1 _ _ ht)) (fun i x σ H1 H2 hi e y => ?_) (fun σ H1 e => ?_)⟩
    · obtain ⟨s1, v, rfl⟩ := e
      obtain ⟨rfl, hx⟩ := y
      rw [List.getElem?_map] at hx
      obtain ⟨n, hn1, rfl⟩ := Option.map_eq_some_iff.mp hx
      have on := hn.2 n (List.mem_of_getElem? hn1)
      refine ⟨_, rfl, _, rfl, .inl ⟨n, rfl, Nat.le_trans (okN_len on).2 (by decide)⟩, fun H' s2 => ⟨_, rfl, ?_⟩⟩
      rw [show isNm (V.str n) = true from on]
      exact ⟨s1.trans s2, _, rfl⟩
    · obtain ⟨s1, v, rfl⟩ := e
      refine ⟨_, rfl, t, _, rfl, .inr (SqT.of (s1 _ _ ht)), _, rfl, p, C, dx, [], .int 8, um, rfl, s1 _ _ hp, U.cl, cm, rfl, _, _, rfl, rfl, _, rfl, ?_⟩
      refine ite2 (fun h => ?_) (fun _ => ?_)
      · rw [decide_eq_true_eq, List.length_map] at h
        have := hn.1
        exact absurd h (by omega)
      · refine ⟨_, rfl, _, rfl, p, C, dx, [], rfl, s1 _ _ hp, U.cl, U.nN, (by show 0 < 1000; decide), ?_⟩
        exact k _ upd_same fun b o hb hne => by
          rw [upd_ne hne]
          exact s1 _ _ hb
end
end Pl

namespace Pl
open PySem L2 Own TL
/-! ### what the methods are, and their promises -/
def spNames (C : Addr) : Sp := fun vs H Q _ => ∃ p dx t, vs = [.ref p] ∧ H p = some (.ins C dx (pf t)) ∧ Q (.ref t) H
def spLen (C : Addr) : Sp := fun vs H Q _ => ∃ p ns, vs = [.ref p] ∧ PlA C H p ns ∧ Q (.int (ns.length : Nat)) H
def spBool (C : Addr) : Sp := fun vs H Q _ => ∃ p ns, vs = [.ref p] ∧ PlA C H p ns ∧ Q (.bl (!ns.isEmpty)) H
def spEq (C : Addr) : Sp := fun vs H Q _ => ∃ p q ns ms, vs = [.ref p, .ref q] ∧ PlA C H p ns ∧ PlA C H q ms ∧ Nms ns ∧ Nms ms ∧ Q (.bl (decide (ns = ms))) H
def spAhead (C : Addr) : Sp := fun vs H Q _ => ∃ p q ns ms, vs = [.ref p, .ref q] ∧ PlA C H p ns ∧ PlA C H q ms ∧ Q (.bl (lexS ns ms)) H
def spHead (C : Addr) : Sp := fun vs H Q _ => ∃ p ns k, vs = [.ref p, .int k] ∧ PlA C H p ns ∧ Nms ns ∧ 0 ≤ k ∧ k ≤ (ns.length : Nat) ∧ ∀ q H', Same H H' → PlA C H' q (ns.take k.toNat) → Q (.ref q) H'
def spUp (C : Addr) : Sp := fun vs H Q _ => ∃ p ns, vs = [.ref p] ∧ PlA C H p ns ∧ Nms ns ∧ (ns = [] → Q .non H) ∧ (ns ≠ [] → ∀ q H', Same H H' → PlA C H' q ns.dropLast → Q (.ref q) H')
def spAdd (C : Addr) : Sp := fun vs H Q _ => ∃ p ns s, vs = [.ref p, .str s] ∧ PlA C H p ns ∧ Nms (ns ++ [s]) ∧ ∀ q H', Same H H' → PlA C H' q (ns ++ [s]) → Q (.ref q) H'
/-- the call of a def as a positional promise -/
theorem fnR_of {P : Program} {w : World} {K : PySem.W.Frag} {mg : Str → Option Value} {base : Heap} {k : Nat} {f : Addr} {fd : FuncData} {ps : List Str} {sp : Sp} (F : FnOk P w K mg base CX0 k f fd ps sp) (hb : Binds K fd ps []) :
    FnR P w K mg base CX0 k f sp := by
  intro A outer s H us vs Q E hr e0 r h
  have hl := F.len _ _ _ _ h
  have z := hb s us (e0.mod.kin.keeps fun b o e => (e0.bs b o e).1) (by rw [List.append_nil, ← r.length]; exact hl)
  rw [List.append_nil] at z
  exact F.run A outer s H _ us vs Q E hr e0 z r h
theorem cut_to {xs : List V} {k : Int} (h0 : 0 ≤ k) (h1 : k ≤ (xs.length : Nat)) : cutV xs none (some k) = xs.take k.toNat := by
  obtain ⟨n, rfl⟩ : ∃ n : Nat, k = (n : Int) := ⟨k.toNat, by omega⟩
  unfold cutV
  rw [HT.sIx_none, HT.sIx_nat, List.drop_zero, Nat.sub_zero, Nat.min_eq_left (by omega)]
  rfl
section
variable {P : Program} {w : World} {K : PySem.W.Frag} {mg : Str → Option Value} {base : Heap} {f C : Addr} {mc : Value} {fd : FuncData}
theorem scNames : FnScope ["self"] ["self"] (defScope sNames) := ⟨rfl, rfl, rfl, by decide +kernel, rfl, by decide +kernel, by decide +kernel⟩
theorem ok_names (F : Fun K "names" "Place.names" sNames f fd) (U : CT K mg C mc) : FnOk P w K mg base CX0 1 f fd ["self"] (spNames C) := by
  refine F.ok scNames (fun vs H Q E h => ?_) (fun cdv A outer s H vs Q E hr h => ?_)
  · obtain ⟨p, dx, t, rfl, _⟩ := h
    rfl
  · obtain ⟨p, dx, t, rfl, hp, q⟩ := h
    exact ⟨_, pss_one (ps_ret (pe_fld (pv 0) rfl)), _, rfl, p, C, dx, _, _, rfl, hp, U.cl, U.nN, pf_at _, q⟩
theorem scLen : FnScope ["self"] ["self"] (defScope sLen) := ⟨rfl, rfl, rfl, by decide +kernel, rfl, by decide +kernel, by decide +kernel⟩
theorem ok_len (F : Fun K "__len__" "Place.__len__" sLen f fd) (T : BT mg) (U : CT K mg C mc) : FnOk P w K mg base CX0 1 f fd ["self"] (spLen C) := by
  refine F.ok scLen (fun vs H Q E h => ?_) (fun cdv A outer s H vs Q E hr h => ?_)
  · obtain ⟨p, ns, rfl, _⟩ := h
    rfl
  · obtain ⟨p, ns, rfl, ⟨dx, t, hp, ht⟩, q⟩ := h
    refine ⟨_, pss_one (ps_ret (pe_callB call_len_seq (by rfl) T.len PySem.boot_len (pa_cons (pe_fld (pv 0) rfl) pa_nil))), _, rfl, p, C, dx, _, _, rfl, hp, U.cl, U.nN, pf_at _, t, _, rfl, .inr (SqT.of ht), ?_⟩
    rw [List.length_map]
    exact q
theorem scBool : FnScope ["self"] ["self"] (defScope sBool) := ⟨rfl, rfl, rfl, by decide +kernel, rfl, by decide +kernel, by decide +kernel⟩
theorem ok_bool (F : Fun K "__bool__" "Place.__bool__" sBool f fd) (T : BT mg) (U : CT K mg C mc) : FnOk P w K mg base CX0 1 f fd ["self"] (spBool C) := by
  refine F.ok scBool (fun vs H Q E h => ?_) (fun cdv A outer s H vs Q E hr h => ?_)
  · obtain ⟨p, ns, rfl, _⟩ := h
    rfl
  · obtain ⟨p, ns, rfl, ⟨dx, t, hp, ht⟩, q⟩ := h
    refine ⟨_, pss_one (ps_ret (pe_callTy call_boolT (by rfl) T.bool (by decide +kernel) (pa_cons (pe_fld (pv 0) rfl) pa_nil))), _, rfl, p, C, dx, _, _, rfl, hp, U.cl, U.nN, pf_at _, t, _, rfl, SqT.of ht, ?_⟩
    have e : (!(ns.map V.str).isEmpty) = !ns.isEmpty := by cases ns <;> rfl
    rw [e]
    exact q
theorem scEq : FnScope ["self", "other"] ["self", "other"] (defScope sEq) := ⟨rfl, rfl, rfl, by decide +kernel, rfl, by decide +kernel, by decide +kernel⟩
theorem ok_eq (F : Fun K "__eq__" "Place.__eq__" sEq f fd) (T : BT mg) (U : CT K mg C mc) : FnOk P w K mg base CX0 1 f fd ["self", "other"] (spEq C) := by
  refine F.ok scEq (fun vs H Q E h => ?_) (fun cdv A outer s H vs Q E hr h => ?_)
  · obtain ⟨p, q, ns, ms, rfl, _⟩ := h
    rfl
  · obtain ⟨p, q, ns, ms, rfl, P1, P2, N1, N2, k⟩ := h
    have ty := PlA.ty U P2
    obtain ⟨dx, t, hp, ht⟩ := P1
    obtain ⟨dy, u, hq, hu⟩ := P2
    refine ⟨_, pss_one (ps_ret (pe_and (pe_callB call_isi (by rfl) T.isi (by decide +kernel) (pa_cons (pv 1) (pa_cons (pe_glob (v := .ref C) (by rfl) U.mgC rfl) pa_nil)))
      (pe_one (pe_cmpR (op_eqD hr.units) (pe_fld (pv 0) rfl) (pe_fld (pv 1) rfl) (nomark _))))), ?_⟩
    refine ⟨_, rfl, _, _, _, _, true, rfl, .own C, ty, U.kC, true, rfl, ?_⟩
    refine iteT ⟨_, rfl, p, C, dx, _, _, rfl, hp, U.cl, U.nN, pf_at _, _, rfl, q, C, dy, _, _, rfl, hq, U.cl, U.nN, pf_at _, _, _, .tup (SqT.of ht) (dp_strs _), .tup (SqT.of hu) (dp_strs _),
      shaped_strs _ fun n hn => ok_str (N1.2 n hn), shaped_strs _ fun n hn => ok_str (N2.2 n hn), ?_⟩
    rw [eqv_strs]
    exact k
theorem scAhead : FnScope ["self", "b"] ["self", "b"] (defScope sAhead) := ⟨rfl, rfl, rfl, by decide +kernel, rfl, by decide +kernel, by decide +kernel⟩
theorem ok_ahead {fn pn : Addr} {fdn : FuncData} (F : Fun K "is_ahead" "Place.is_ahead" sAhead f fd) (T : BT mg) (U : CT K mg C mc) (Fn : Fun K "names" "Place.names" sNames fn fdn) (bn : Binds K fdn ["self"] []) (hp : PropOf K C "names" pn fn) :
    FnOk P w K mg base CX0 3 f fd ["self", "b"] (spAhead C) := by
  have GN : FnOk P w K mg base CX0 1 fn fdn ["self"] (spNames C) := ok_names Fn U
  refine F.ok scAhead (fun vs H Q E h => ?_) (fun cdv A outer s H vs Q E hr h => ?_)
  · obtain ⟨p, q, ns, ms, rfl, _⟩ := h
    rfl
  · obtain ⟨p, q, ns, ms, rfl, P1, P2, k⟩ := h
    have ty := PlA.ty U P2
    obtain ⟨dx, t, hp1, ht⟩ := P1
    obtain ⟨dy, u, hq, hu⟩ := P2
    refine ⟨_, pss_cons (ps_if (pt_not (pt_val (pe_callB call_isi (by rfl) T.isi (by decide +kernel) (pa_cons (pv 1) (pa_cons (pe_glob (v := .ref C) (by rfl) U.mgC rfl) pa_nil))))) (pss_one ps_never) pss_nil)
      (pss_one (ps_ret (pe_cmpR (op_ltTS hr.units0) (pe_fld (pv 0) rfl) (pe_prop (pv 1) U.cl hp GN hr bn .nil pass0 rfl) (nomark _)))), ?_⟩
    refine ⟨_, rfl, _, _, _, _, true, rfl, .own C, ty, U.kC, true, rfl, ?_⟩
    refine iteF ⟨_, rfl, p, C, dx, _, _, rfl, hp1, U.cl, U.nN, pf_at _, _, rfl, q, dy, _, rfl, hq, q, dy, u, rfl, hq, t, u, ns, ms, rfl, rfl, SqT.of ht, SqT.of hu, k⟩
theorem scHead : FnScope ["self", "k", "names"] ["self", "k"] (defScope sHead) := ⟨rfl, rfl, rfl, by decide +kernel, rfl, by decide +kernel, by decide +kernel⟩
theorem ok_head {fI fP : Addr} {fdI : FuncData} (F : Fun K "head" "Place.head" sHead f fd) (T : BT mg) (U : CT K mg C mc) (FI : Fun K "is_integer" "is_integer" sIsInt fI fdI) (bI : Binds K fdI ["value"] []) (mI : mg "is_integer" = some (.ref fI))
    (M : Mk K C fP) (GM : FnR P w K mg base CX0 2 fP (spMk C)) : FnOk P w K mg base CX0 4 f fd ["self", "k"] (spHead C) := by
  have GI : FnOk P w K mg base CX0 1 fI fdI ["value"] (spIsInt K) := ok_isInt FI T
  refine F.ok scHead (fun vs H Q E h => ?_) (fun cdv A outer s H vs Q E hr h => ?_)
  · obtain ⟨p, ns, k, rfl, _⟩ := h
    rfl
  · obtain ⟨p, ns, k, rfl, ⟨dx, t, hp, ht⟩, hn, k0, k1, q⟩ := h
    refine ⟨_, pss_cons (ps_if (PW.pt (pw_or (pt_not (pt_val (pe_call GI (hr.mono (by decide)) (by rfl) mI FI.kp bI .nil pass0 (pa_cons (pv 1) pa_nil))))
        (pw_or1 (pt_not (pt_chain op_le op_le pe_int (pv 1) (pe_callB call_len_seq (by rfl) T.len PySem.boot_len (pa_cons (pe_fld (pv 0) rfl) pa_nil))))))) (pss_one ps_never) pss_nil)
      (pss_cons (ps_set (i := 2) scHead.nd rfl (Or.inl rfl) (pe_slice sl_tupA (pe_fld (pv 0) rfl) po_none (po_some (pv 1))))
      (pss_one (ps_ret (pe_makeS M GM hr (by rfl) U.mgC pass0 (pv 2))))), ?_⟩
    refine ⟨_, rfl, _, _, true, false, rfl, .base (.int k), kit_ty (by decide +kernel), kit_ty (by decide +kernel), _, rfl, ?_⟩
    refine iteF ⟨_, rfl, _, _, rfl, rfl, _, rfl, ?_⟩
    rw [decide_eq_true k0]
    refine iteT ⟨_, rfl, p, C, dx, _, _, rfl, hp, U.cl, U.nN, pf_at _, t, _, rfl, .inr (SqT.of ht), _, _, rfl, rfl, _, rfl, ?_⟩
    rw [List.length_map, decide_eq_true k1]
    refine iteF ⟨_, rfl, p, C, dx, _, _, rfl, hp, U.cl, U.nN, pf_at _, ?_⟩
    refine ⟨_, rfl, k, rfl, t, _, rfl, SqT.of ht, fun hw => ?_, fun hw p2 hp2 => ?_⟩
    · have ek : ns.take k.toNat = ns := by
        have h2 := hw.2
        obtain ⟨n, rfl⟩ : ∃ n : Nat, k = (n : Int) := ⟨k.toNat, by omega⟩
        rw [HT.sIx_nat, List.length_map] at h2
        exact List.take_of_length_le (by omega)
      refine ⟨_, rfl, t, _, rfl, .inl (SqT.of ht), make_ok hn fun r H' s1 P1 => q r H' s1 ?_⟩
      rw [ek]
      exact P1
    · have ec : cutV (ns.map V.str) none (some k) = (ns.take k.toNat).map V.str := by
        rw [cut_to k0 (by rw [List.length_map]; exact k1), List.map_take]
      refine ⟨_, rfl, p2, (ns.take k.toNat).map V.str, rfl, .inl (SqT.of (by rw [upd_same, ec])), make_ok (hn.take _) fun r H' s1 P1 => q r H' (fun b o hb => s1 b o ?_) P1⟩
      rw [upd_ne (ne_of_none hb hp2)]
      exact hb
theorem scUp : FnScope ["self"] ["self"] (defScope sUp) := ⟨rfl, rfl, rfl, by decide +kernel, rfl, by decide +kernel, by decide +kernel⟩
theorem ok_up {fH : Addr} {fdH : FuncData} (F : Fun K "up" "Place.up" sUp f fd) (T : BT mg) (U : CT K mg C mc) (GH : FnOk P w K mg base CX0 4 fH fdH ["self", "k"] (spHead C)) (bH : Binds K fdH ["self", "k"] []) (mH : Meth K C "head" fH) :
    FnOk P w K mg base CX0 5 f fd ["self"] (spUp C) := by
  refine F.ok scUp (fun vs H Q E h => ?_) (fun cdv A outer s H vs Q E hr h => ?_)
  · obtain ⟨p, ns, rfl, _⟩ := h
    rfl
  · obtain ⟨p, ns, rfl, Pp, hn, q0, q1⟩ := h
    obtain ⟨dx, t, hp, ht⟩ := id Pp
    refine ⟨_, pss_cons (ps_if (pt_not (pt_truth (pe_fld (pv 0) rfl) (by intro _; rfl))) (pss_one (ps_ret pe_non)) pss_nil)
      (pss_one (ps_ret (pe_meth (pv 0) U.cl mH GH hr bH .nil pass0 (pa_cons (pe_op op_sub (pe_callB call_len_seq (by rfl) T.len PySem.boot_len (pa_cons (pe_fld (pv 0) rfl) pa_nil)) pe_int) pa_nil)))), ?_⟩
    refine ⟨_, rfl, p, C, dx, _, _, rfl, hp, U.cl, U.nN, pf_at _, _, .inr (.inl ⟨_, SqT.of ht, rfl⟩), ?_⟩
    cases ns with
    | nil => exact q0 rfl
    | cons n ns =>
      refine ⟨_, rfl, p, dx, _, rfl, hp, pf_no _ (by decide +kernel), _, rfl, p, C, dx, _, _, rfl, hp, U.cl, U.nN, pf_at _, t, _, rfl, .inr (SqT.of ht), _, _, rfl, rfl, ?_⟩
      refine ⟨p, n :: ns, _, rfl, Pp, hn, ?_, ?_, fun r H' s1 P1 => q1 (by simp) r H' s1 ?_⟩
      · simp
      · simp
        omega
      · have e : (((List.map V.str (n :: ns)).length : Nat) - 1 : Int).toNat = ns.length := by simp
        rw [e] at P1
        rw [List.dropLast_eq_take]
        exact P1
theorem scAdd : FnScope ["self", "other"] ["self", "other"] (defScope sAdd) := ⟨rfl, rfl, rfl, by decide +kernel, rfl, by decide +kernel, by decide +kernel⟩
theorem ok_add {fP : Addr} (F : Fun K "__add__" "Place.__add__" sAdd f fd) (U : CT K mg C mc) (M : Mk K C fP) (GM : FnR P w K mg base CX0 2 fP (spMk C)) : FnOk P w K mg base CX0 4 f fd ["self", "other"] (spAdd C) := by
  refine F.ok scAdd (fun vs H Q E h => ?_) (fun cdv A outer s H vs Q E hr h => ?_)
  · obtain ⟨p, ns, x, rfl, _⟩ := h
    rfl
  · obtain ⟨p, ns, x, rfl, ⟨dx, t, hp, ht⟩, hn, q⟩ := h
    refine ⟨_, pss_one (ps_ret (pe_makeS1 M GM hr (by rfl) U.mgC pass0 (StX.pa_star (pe_fld (pv 0) rfl) (pa_cons (pv 1) pa_nil)))), ?_⟩
    refine ⟨_, rfl, p, C, dx, _, _, rfl, hp, U.cl, U.nN, pf_at _, t, _, rfl, .inl (SqT.of ht), _, rfl, ?_⟩
    have e : ns.map V.str ++ [V.str x] = (ns ++ [x]).map V.str := by rw [List.map_append]; rfl
    have z := make_ok (C := C) (H1 := H) (Q := Q) (E := E0) hn fun r H' s1 P1 => q r H' s1 P1
    rw [← e] at z
    exact z
end
end Pl

namespace Pl
open PySem L2 Own TL
/-! ### texts of places -/
def txt (ns : List Str) : Str := ("/" : Str) ++ Txt.join ("/" : Str) ns
theorem tl_slash : tl ("/" : Str) = [47] := by decide +kernel
theorem slash_small : ("/" : Str).cps.all (· < 256) = true := by decide +kernel
theorem no47 {s : Str} (h : okN s = true) : 47 ∉ tl s := by
  unfold okN at h
  simp only [Bool.and_eq_true, decide_eq_true_eq, List.all_eq_true] at h
  intro hm
  have a : 47 ∉ tl SIGNS := by decide +kernel
  exact a (h.2 47 hm)
theorem tl_txt (ns : List Str) : tl (txt ns) = 47 :: joinL [47] (ns.map tl) := by
  unfold txt
  rw [tl_append, join_eq, tl_join, tl_slash]
  rfl
theorem txt_starts (ns : List Str) : Txt.startswith (txt ns) ("/" : Str) = true := by
  unfold Txt.startswith
  have h := tl_txt ns
  have l1 : ("/" : Str).length = 1 := by decide +kernel
  have l2 : 1 ≤ (txt ns).length := by rw [len_tl, h]; simp
  rw [StrLaws.subAt_eq, l1]
  simp only [Bool.and_eq_true, decide_eq_true_eq, beq_iff_eq]
  refine ⟨by omega, ?_⟩
  show ((tl (txt ns)).drop 0).take 1 = tl ("/" : Str)
  rw [h, tl_slash]
  rfl
def cut1 (s : Str) : Str := cutS s (some 1) none
theorem tl_cut1 (s : Str) : tl (cut1 s) = (tl s).drop 1 := by
  unfold cut1 cutS
  show List.take (HT.sIx s.length s.length none - HT.sIx s.length 0 (some ((1 : Nat) : Int))) (List.drop (HT.sIx s.length 0 (some ((1 : Nat) : Int))) (tl s)) = _
  rw [HT.sIx_none, HT.sIx_nat]
  have e : s.length = (tl s).length := len_tl s
  rcases Nat.eq_zero_or_pos s.length with z | z
  · have : tl s = [] := List.length_eq_zero_iff.mp (by omega)
    rw [this]
    simp
  · rw [Nat.min_eq_left (by omega)]
    refine List.take_of_length_le ?_
    rw [List.length_drop]
    omega
theorem cut_txt (ns : List Str) : cut1 (txt ns) = Txt.join ("/" : Str) ns := by
  refine ext_tl ?_
  rw [tl_cut1, tl_txt, join_eq, tl_join, tl_slash]
  rfl
theorem join_cons (ns : List Str) (h : ns ≠ []) : txt ns = Txt.join ("/" : Str) (("" : Str) :: ns) := by
  refine ext_tl ?_
  rw [tl_txt, join_eq, tl_join, tl_slash]
  cases ns with
  | nil => exact absurd rfl h
  | cons n r => rfl
theorem split_names {ns : List Str} (hn : Nms ns) (h : ns ≠ []) : Txt.split (Txt.join ("/" : Str) ns) ("/" : Str) = ns :=
  split_join tl_slash slash_small h fun p hp => no47 (hn.2 p hp)
theorem split_txt {ns : List Str} (hn : Nms ns) (h : ns ≠ []) : Txt.split (txt ns) ("/" : Str) = ("" : Str) :: ns := by
  rw [join_cons ns h]
  refine split_join tl_slash slash_small (by simp) fun p hp => ?_
  rcases List.mem_cons.mp hp with rfl | hp
  · decide +kernel
  · exact no47 (hn.2 p hp)
theorem txt_nil : txt [] = ("/" : Str) := by
  refine ext_tl ?_
  rw [tl_txt, tl_slash]
  rfl
theorem split_root : Txt.split ("/" : Str) ("/" : Str) = [("" : Str), ("" : Str)] := by
  have e : ("/" : Str) = Txt.join ("/" : Str) [("" : Str), ("" : Str)] := by
    refine ext_tl ?_
    rw [join_eq, tl_join, tl_slash]
    rfl
  have z := split_join (y := ("/" : Str)) tl_slash slash_small (parts := [("" : Str), ("" : Str)]) (by simp) (fun p hp => by
    have e2 : p = ("" : Str) := by simpa using hp
    rw [e2]
    decide +kernel)
  rw [← e] at z
  exact z
theorem txt_ne {ns : List Str} (h : ns ≠ []) (hn : Nms ns) : txt ns ≠ ("/" : Str) := by
  intro e
  have h1 := tl_txt ns
  rw [e, tl_slash] at h1
  cases ns with
  | nil => exact h rfl
  | cons n r =>
    have h2 : joinL [47] ((n :: r).map tl) = [] := by
      injection h1 with _ q
      exact q.symm
    have h3 : tl n ≠ [] := fun q => by
      have := (okN_len (hn.2 n List.mem_cons_self)).1
      rw [len_tl, q] at this
      simp at this
    cases r with
    | nil => exact h3 h2
    | cons m r =>
      have h4 : tl n ++ ([47] ++ joinL [47] ((m :: r).map tl)) = [] := h2
      exact h3 (List.append_eq_nil_iff.mp h4).1
def prt (s : Str) : List Str := Txt.split (cut1 s) ("/" : Str)
def isPT (s : Str) : Bool := Txt.startswith s ("/" : Str) && (decide (s = ("/" : Str)) || (decide ((prt s).length ≤ 8) && (prt s).all okN))
theorem isPT_txt {ns : List Str} (hn : Nms ns) : isPT (txt ns) = true := by
  unfold isPT
  rw [txt_starts, Bool.true_and]
  by_cases h : ns = []
  · subst h
    rw [txt_nil, decide_eq_true rfl]
    rfl
  · have e : prt (txt ns) = ns := by
      unfold prt
      rw [cut_txt, split_names hn h]
    rw [e, decide_eq_true hn.1]
    have : ns.all okN = true := List.all_eq_true.mpr fun n hm => hn.2 n hm
    rw [this]
    simp
/-- the names that read keeps -/
theorem kept_txt {ns : List Str} (hn : Nms ns) : (Txt.split (txt ns) ("/" : Str)).filter (fun n => (n.length : Int) != 0) = ns := by
  by_cases h : ns = []
  · subst h
    rw [txt_nil, split_root]
    decide +kernel
  · rw [split_txt hn h]
    rw [List.filter_cons_of_neg (by decide +kernel)]
    refine List.filter_eq_self.mpr fun n hm => ?_
    have := (okN_len (hn.2 n hm)).1
    simp
    omega
theorem sum_len : ∀ ns : List Str, (∀ n ∈ ns, okN n = true) → (ns.map (·.length)).sum ≤ 8 * ns.length
  | [], _ => by simp
  | n :: r, h => by
    have a := sum_len r fun m hm => h m (List.mem_cons_of_mem _ hm)
    have b := (okN_len (h n List.mem_cons_self)).2
    simp only [List.map_cons, List.sum_cons, List.length_cons]
    omega
theorem join_room {ns : List Str} (hn : Nms ns) : (ns.map (·.length)).sum + ns.length * ("/" : Str).length ≤ 16777216 := by
  have a := sum_len ns hn.2
  have l1 : ("/" : Str).length = 1 := by decide +kernel
  have := hn.1
  rw [l1]
  omega
theorem len_joinL : ∀ ps : List (List Nat), (joinL [47] ps).length ≤ (ps.map List.length).sum + ps.length
  | [] => by simp [joinL]
  | [p] => by simp [joinL]
  | p :: q :: r => by
    have := len_joinL (q :: r)
    simp only [joinL, List.length_append, List.map_cons, List.sum_cons, List.length_cons, List.length_nil] at *
    omega
theorem txt_len {ns : List Str} (hn : Nms ns) : (txt ns).length ≤ 100 := by
  rw [len_tl, tl_txt, List.length_cons]
  have a := len_joinL (ns.map tl)
  have b := sum_len ns hn.2
  have e : (List.map List.length (List.map tl ns)) = ns.map (·.length) := by
    rw [List.map_map]
    refine List.map_congr_left fun n _ => ?_
    show (tl n).length = n.length
    rw [len_tl]
  rw [e, List.length_map] at a
  have := hn.1
  omega
theorem join_len {ns : List Str} (hn : Nms ns) : (Txt.join ("/" : Str) ns).length ≤ 100 := by
  have h := txt_len hn
  have e : (txt ns).length = ("/" : Str).length + (Txt.join ("/" : Str) ns).length := by
    unfold txt
    rw [len_tl, len_tl, len_tl, tl_append, List.length_append]
  omega
end Pl

namespace Pl
open PySem L2 Own TL
def isPTv : V → Bool
  | .str s => isPT s
  | _ => false
def spPText (K : PySem.W.Frag) : Sp := fun vs H Q _ => ∃ x, vs = [x] ∧ ((∃ s, x = .str s ∧ s.length ≤ 1000000) ∨ (∃ t, TyX K H x t ∧ PySem.W.kitOne K t (.type "str") = some false ∧ isPTv x = false)) ∧
  ∀ H', Same H H' → Q (.bl (isPTv x)) H'
def spText (C : Addr) : Sp := fun vs H Q _ => ∃ p ns, vs = [.ref p] ∧ PlA C H p ns ∧ Nms ns ∧ Q (.str (txt ns)) H
def spRead (C : Addr) : Sp := fun vs H Q _ => ∃ ns, vs = [.ref C, .str (txt ns)] ∧ Nms ns ∧ ∀ q H', Same H H' → PlA C H' q ns → Q (.ref q) H'
def spOf (C : Addr) : Sp := fun vs H Q _ => ∃ p ns, vs = [.ref p] ∧ PlA C H p ns ∧ Q (.ref p) H
def spIsPlace (C : Addr) : Sp := fun vs H Q _ => ∃ p ns, vs = [.ref p] ∧ PlA C H p ns ∧ Q (.bl true) H
def spCont (C : Addr) : Sp := fun vs H Q _ => ∃ p q ns ms, vs = [.ref p, .ref q] ∧ PlA C H p ns ∧ PlA C H q ms ∧ Nms ns ∧ Nms ms ∧ ∀ H', Same H H' → Q (.bl (decide (ms.take ns.length = ns))) H'
theorem spl_le (S : List Nat) : ∀ (l : List Nat) (k : Nat) (acc p : List Nat), p ∈ spl S k acc l → p.length ≤ acc.length + l.length
  | [], k, acc, p, h => by
    rw [spl_nil] at h
    rw [List.mem_singleton.mp h]
    simp
  | c :: r, 0, acc, p, h => by
    cases e : pre S (c :: r) with
    | true =>
      rw [spl_hit e] at h
      rcases List.mem_cons.mp h with q | q
      · rw [q]
        simp
      · have := spl_le S r _ _ p q
        simp only [List.length_nil, List.length_cons] at *
        omega
    | false =>
      rw [spl_miss e] at h
      have := spl_le S r _ _ p h
      simp only [List.length_append, List.length_cons, List.length_nil] at *
      omega
  | c :: r, k + 1, acc, p, h => by
    rw [spl_pass] at h
    have : p ∈ spl S k acc r := by
      rw [spl_pass]
      exact h
    have := spl_le S r _ _ p this
    simp only [List.length_cons]
    omega
theorem split_le {x : Str} {p : Str} (h : p ∈ Txt.split x ("/" : Str)) : p.length ≤ x.length := by
  have e := split_spl x ("/" : Str) (by rw [tl_slash]; simp) (kind_ok slash_small)
  have h2 : tl p ∈ spl [47] 0 [] (tl x) := by
    rw [← tl_slash, ← e]
    exact List.mem_map_of_mem h
  have := spl_le _ _ _ _ _ h2
  rw [len_tl, len_tl]
  simpa using this
theorem spl_count (S : List Nat) : ∀ (l : List Nat) (k : Nat) (acc : List Nat), (spl S k acc l).length ≤ l.length + 1
  | [], k, acc => by
    rw [spl_nil]
    simp
  | c :: r, 0, acc => by
    cases e : pre S (c :: r) with
    | true =>
      rw [spl_hit e]
      have := spl_count S r (S.length - 1) []
      simp only [List.length_cons]
      omega
    | false =>
      rw [spl_miss e]
      have := spl_count S r 0 (acc ++ [c])
      simp only [List.length_cons]
      omega
  | c :: r, k + 1, acc => by
    have h : spl S (k + 1) acc (c :: r) = spl S k acc r := by rw [spl_pass, spl_pass S k]; rfl
    rw [h]
    have := spl_count S r k acc
    simp only [List.length_cons]
    omega
theorem split_count (x : Str) : (Txt.split x ("/" : Str)).length ≤ x.length + 1 := by
  have e := split_spl x ("/" : Str) (by rw [tl_slash]; simp) (kind_ok slash_small)
  have h := congrArg List.length e
  rw [List.length_map] at h
  rw [h, len_tl]
  exact spl_count _ _ _ _
theorem cut1_le (s : Str) : (cut1 s).length ≤ s.length := cutS_length s _ _
section
variable {P : Program} {w : World} {K : PySem.W.Frag} {mg : Str → Option Value} {base : Heap} {f C : Addr} {mc : Value} {fd : FuncData}
theorem scText : FnScope ["self"] ["self"] (defScope sText) := ⟨rfl, rfl, rfl, by decide +kernel, rfl, by decide +kernel, by decide +kernel⟩
theorem ok_text (F : Fun K "text" "Place.text" sText f fd) (U : CT K mg C mc) : FnOk P w K mg base CX0 1 f fd ["self"] (spText C) := by
  refine F.ok scText (fun vs H Q E h => ?_) (fun cdv A outer s H vs Q E hr h => ?_)
  · obtain ⟨p, ns, rfl, _⟩ := h
    rfl
  · obtain ⟨p, ns, rfl, ⟨dx, t, hp, ht⟩, hn, q⟩ := h
    refine ⟨_, pss_one (ps_ret (pe_op op_add_str pe_str (pe_join pe_str (pe_fld (pv 0) rfl)))), ⟨_, rfl⟩, _, rfl, p, C, dx, _, _, rfl, hp, U.cl, U.nN, pf_at _, _, t, ns, rfl, rfl, .inr (SqT.of ht), join_room hn, _, _, rfl, rfl, ?_, q⟩
    have a := join_len hn
    have l1 : ("/" : Str).length = 1 := by decide +kernel
    rw [l1]
    have : (1000 : Nat) ≤ sizeLine := by decide
    omega
theorem scPText : FnScope ["value", "names", "name"] ["value"] (defScope sPText) := ⟨rfl, rfl, rfl, by decide +kernel, rfl, by decide +kernel, by decide +kernel⟩
theorem ok_ptext {fN : Addr} {fdN : FuncData} (F : Fun K "is_place_text" "is_place_text" sPText f fd) (T : GT mg) (U : CT K mg C mc) (FN : Fun K "is_name" "is_name" sIsName fN fdN) (bN : Binds K fdN ["value"] []) (mN : mg "is_name" = some (.ref fN)) :
    FnOk P w K mg base CX0 2 f fd ["value"] (spPText K) := by
  have GN : FnOk P w K mg base CX0 1 fN fdN ["value"] (spIsName K) := ok_isName FN T
  refine F.ok scPText (fun vs H Q E h => ?_) (fun cdv A outer s H vs Q E hr h => ?_)
  · obtain ⟨x, rfl, _⟩ := h
    rfl
  · obtain ⟨x, rfl, hx, q⟩ := h
    obtain ⟨um, cm⟩ := U.most
    refine ⟨_, pss_cons (ps_if (PW.pt (pw_or (pt_not (pt_val (pe_callB call_isi (by rfl) T.b.isi (by decide +kernel) (pa_cons (pv 0) (pa_cons (pe_bltn (v := .ty "str") (by rfl) T.b.str (by decide +kernel) rfl) pa_nil)))))
        (pw_or1 (pt_not (pt_val (pe_m1 PySem.F.slot_str_startswith PySem.F.type_str_startswith mt_startswith (pv 0) pe_str)))))) (pss_one (ps_ret pe_bl)) pss_nil)
      (pss_cons (ps_if (pt_cmpR op_eq (pv 0) pe_str (nomark _)) (pss_one (ps_ret pe_bl)) pss_nil)
      (pss_cons (ps_set (i := 1) scPText.nd rfl (Or.inl rfl) (pe_split (pe_slice sl_str (pv 0) (po_some pe_int) po_none) pe_str))
      (pss_one (ps_ret (pe_and (pe_cmpR op_le (pe_callB call_len_seq (by rfl) T.b.len PySem.boot_len (pa_cons (pv 1) pa_nil)) (ClX.pe_cval (pe_glob (v := .ref C) (by rfl) U.mgC rfl)) (nomark _))
        (pe_one (pe_callB (cr_all rfl) (by rfl) T.b.all (by decide +kernel) (pa_cons (pe_lc (own := [("name", 2)]) (g := gName 2) (tt := tYes) rfl scPText.nd (pi_list (pv 1))
          (blkOk_by (own := [("name", 2)]) (N := ["value", "names", "name"]) (sc := defScope sPText) (by decide +kernel)) (fun _ _ _ _ _ => pg_name (i := 2) scPText.nd rfl (Or.inl rfl)) (fun _ _ _ _ _ => pts_nil)
          (fun _ _ _ _ _ => pe_call GN hr (by rfl) mN FN.kp bN .nil pass0 (pa_cons (pv 2) pa_nil))) pa_nil)))))))), ?_⟩
    rcases hx with ⟨z, rfl, hz⟩ | ⟨t, ty, kt, nz⟩
    · have hzl : z.length + 10 ≤ sizeLine := Nat.le_trans (Nat.add_le_add_right hz 10) (by decide)
      refine ⟨_, rfl, _, _, _, _, true, rfl, .ty "str", .base (.str z), kit_ty (by decide +kernel), true, rfl, ?_⟩
      refine iteF ⟨_, rfl, ⟨_, rfl⟩, _, _, rfl, rfl, _, rfl, ite2 (fun h0 => ?_) (fun h0 => ?_)⟩
      · have e := q H (Same.refl H)
        have e2 : isPTv (.str z) = false := by
          show isPT z = false
          unfold isPT
          rw [Bool.not_eq_true'] at h0
          rw [h0]
          rfl
        rw [e2] at e
        exact e
      · have h0' : Txt.startswith z ("/" : Str) = true := by simpa using h0
        refine ⟨_, rfl, rfl, _, rfl, ite2 (fun h1 => ?_) (fun h1 => ?_)⟩
        · have e := q H (Same.refl H)
          have h1' : z = ("/" : Str) := by simpa using h1
          have e2 : isPTv (.str z) = true := by
            show isPT z = true
            unfold isPT
            rw [h0', decide_eq_true h1']
            rfl
          rw [e2] at e
          exact e
        · have h1' : ¬ z = ("/" : Str) := by simpa using h1
          refine ⟨_, rfl, 1, rfl, z, rfl, Nat.le_trans (Nat.le_add_right _ _) hzl, ⟨_, rfl⟩, _, _, rfl, rfl, by decide +kernel, ?_, fun l hl => ?_⟩
          · have := cut1_le z
            show (cut1 z).length + 2 ≤ sizeLine
            omega
          · have hL : (upd H l (.lst ((prt z).map V.str))) l = some (.lst ((prt z).map V.str)) := upd_same
            have s0 : Same H (upd H l (.lst ((prt z).map V.str))) := fun b o hb => by
              rw [upd_ne (ne_of_none hb hl)]
              exact hb
            refine ⟨_, rfl, l, _, rfl, .inl (SqL.of hL), C, mc, .int 8, um, rfl, U.rd, cm, _, _, rfl, rfl, _, rfl, ite2 (fun h2 => ?_) (fun h2 => ?_)⟩
            · have h2' : (prt z).length ≤ 8 := by
                have : (((prt z).map V.str).length : Int) ≤ 8 := by simpa using h2
                rw [List.length_map] at this
                omega
              refine ⟨_, rfl, l, rfl, ⟨_, SqL.of hL⟩, fun D hD => lc_it (walk_list (K := K) (a := l) (xs := (prt z).map V.str)) (fun i H' => Same (upd H l (.lst ((prt z).map V.str))) H' ∧ H' D = some (.lst (((prt z).take i).map fun n => V.bl (okN n)))) ⟨fun b o hb => by
                rw [upd_ne (ne_of_none hb hD)]
                exact hb, upd_same⟩ (fun i H' _ p => SqL.of (p.1 _ _ hL)) (fun i x H1 H2 hi p y => ?_) (fun H1 p => ?_)⟩
              · obtain ⟨rfl, hx⟩ := y
                rw [List.getElem?_map] at hx
                obtain ⟨n, hn1, rfl⟩ := Option.map_eq_some_iff.mp hx
                refine ⟨rfl, _, rfl, _, rfl, .inl ⟨n, rfl, ?_⟩, fun H' s2 => ⟨_, s2 _ _ p.2, ?_, fun b o hb => ?_, ?_⟩⟩
                · have a1 := split_le (List.mem_of_getElem? hn1)
                  have a2 := cut1_le z
                  omega
                · rw [List.length_map]
                  have : ((prt z).take i).length ≤ (prt z).length := by rw [List.length_take]; omega
                  have : (8 : Nat) < sizeLine := by decide
                  omega
                · rw [upd_ne (ne_of_none hb hD)]
                  exact s2 _ _ (p.1 _ _ hb)
                · rw [upd_same, List.take_add_one, hn1, List.map_append]
                  rfl
              · refine ⟨D, (prt z).map okN, rfl, SqL.of ?_, ?_⟩
                · rw [p.2, List.length_map, List.take_length, List.map_map]
                  rfl
                · have e := q H1 (s0.trans p.1)
                  have e2 : isPTv (.str z) = ((prt z).map okN).all id := by
                    show isPT z = _
                    unfold isPT
                    rw [h0', decide_eq_false h1', decide_eq_true h2', List.all_map]
                    rfl
                  rw [e2] at e
                  exact e
            · have e := q _ s0
              have h2' : ¬ (prt z).length ≤ 8 := fun q => h2 (decide_eq_true (by rw [List.length_map]; omega))
              have e2 : isPTv (.str z) = false := by
                show isPT z = false
                unfold isPT
                rw [decide_eq_false h1', decide_eq_false h2']
                simp
              rw [e2] at e
              exact e
    · refine ⟨_, rfl, x, _, t, _, false, rfl, .ty "str", ty, kt, false, rfl, ?_⟩
      refine iteT (iteT ?_)
      have e := q H (Same.refl H)
      rw [nz] at e
      exact e
theorem scIsPlace : FnScope ["value"] ["value"] (defScope sIsPlace) := ⟨rfl, rfl, rfl, by decide +kernel, rfl, by decide +kernel, by decide +kernel⟩
theorem ok_isPlace {fT : Addr} {fdT : FuncData} (F : Fun K "is_place" "is_place" sIsPlace f fd) (T : GT mg) (U : CT K mg C mc) (GT_ : FnOk P w K mg base CX0 2 fT fdT ["value"] (spPText K)) (kT : PySem.W.keepIn K (.ref fT) = true) (bT : Binds K fdT ["value"] []) (mT : mg "is_place_text" = some (.ref fT)) :
    FnOk P w K mg base CX0 3 f fd ["value"] (spIsPlace C) := by
  refine F.ok scIsPlace (fun vs H Q E h => ?_) (fun cdv A outer s H vs Q E hr h => ?_)
  · obtain ⟨p, ns, rfl, _⟩ := h
    rfl
  · obtain ⟨p, ns, rfl, Pp, q⟩ := h
    refine ⟨_, pss_one (ps_ret (pe_or (pe_callB call_isi (by rfl) T.b.isi (by decide +kernel) (pa_cons (pv 0) (pa_cons (pe_glob (v := .ref C) (by rfl) U.mgC rfl) pa_nil)))
      (pe_one (pe_call GT_ hr (by rfl) mT kT bT .nil pass0 (pa_cons (pv 0) pa_nil))))), ?_⟩
    refine ⟨_, rfl, _, _, _, _, true, rfl, .own C, PlA.ty U Pp, U.kC, true, rfl, ?_⟩
    exact iteT q
theorem scOf : FnScope ["value"] ["value"] (defScope sOf) := ⟨rfl, rfl, rfl, by decide +kernel, rfl, by decide +kernel, by decide +kernel⟩
theorem ok_of (F : Fun K "of" "Place.of" sOf f fd) (T : GT mg) (U : CT K mg C mc) : FnOk P w K mg base CX0 1 f fd ["value"] (spOf C) := by
  refine F.ok scOf (fun vs H Q E h => ?_) (fun cdv A outer s H vs Q E hr h => ?_)
  · obtain ⟨p, ns, rfl, _⟩ := h
    rfl
  · obtain ⟨p, ns, rfl, Pp, q⟩ := h
    refine ⟨_, pss_cons (ps_if (pt_val (pe_callB call_isi (by rfl) T.b.isi (by decide +kernel) (pa_cons (pv 0) (pa_cons (pe_glob (v := .ref C) (by rfl) U.mgC rfl) pa_nil)))) (pss_one (ps_ret (pv 0))) pss_nil) (pss_one ps_never), ?_⟩
    refine ⟨_, rfl, _, _, _, _, true, rfl, .own C, PlA.ty U Pp, U.kC, true, rfl, ?_⟩
    exact iteT ⟨_, rfl, q⟩
theorem scRead : FnScope ["cls", "text", "names", "name"] ["cls", "text"] (defScope sRead) := ⟨rfl, rfl, rfl, by decide +kernel, rfl, by decide +kernel, by decide +kernel⟩
theorem ok_read {fT fP : Addr} {fdT : FuncData} (F : Fun K "read" "Place.read" sRead f fd) (T : GT mg) (U : CT K mg C mc) (GT_ : FnOk P w K mg base CX0 2 fT fdT ["value"] (spPText K)) (kT : PySem.W.keepIn K (.ref fT) = true) (bT : Binds K fdT ["value"] []) (mT : mg "is_place_text" = some (.ref fT))
    (M : Mk K C fP) (GM : FnR P w K mg base CX0 2 fP (spMk C)) : FnOk P w K mg base CX0 4 f fd ["cls", "text"] (spRead C) := by
  refine F.ok scRead (fun vs H Q E h => ?_) (fun cdv A outer s H vs Q E hr h => ?_)
  · obtain ⟨ns, rfl, _⟩ := h
    rfl
  · obtain ⟨ns, rfl, hn, q⟩ := h
    have tl1 := txt_len hn
    have big : (2000 : Nat) ≤ sizeLine := by decide
    refine ⟨_, pss_cons (ps_if (pt_not (pt_val (pe_call GT_ (hr.mono (by decide)) (by rfl) mT kT bT .nil pass0 (pa_cons (pv 1) pa_nil)))) (pss_one ps_never) pss_nil)
      (pss_cons (ps_setLc (i := 2) (own := [("name", 3)]) (g := gName 3) (tt := tTru K (tVar 3)) rfl scRead.nd rfl rfl (sw_true rfl rfl rfl (by decide +kernel)) (pi_list (pe_split (pv 1) pe_str))
        (blkOk_by (own := [("name", 3)]) (N := ["cls", "text", "names", "name"]) (sc := defScope sRead) (by decide +kernel)) (fun _ _ _ _ _ => pg_name (i := 3) scRead.nd rfl (Or.inl rfl)) (fun _ _ _ _ _ => pts_one (pt_truth (pv 3) (by intro _; rfl)))
        (fun _ _ _ _ _ => pv 3))
      (pss_one (ps_ret (pe_makeLS M GM hr (pv 0) pass0 (pv 2))))), ?_⟩
    refine ⟨_, rfl, _, rfl, .inl ⟨_, rfl, by omega⟩, fun H1 s1 => ⟨_, rfl, ?_⟩⟩
    rw [show isPTv (.str (txt ns)) = true from isPT_txt hn]
    refine iteF ?_
    refine ⟨_, rfl, ⟨_, rfl⟩, _, _, rfl, rfl, by decide +kernel, by omega, fun l hl => ?_⟩
    have hL : (upd H1 l (.lst ((Txt.split (txt ns) ("/" : Str)).map V.str))) l = some (.lst ((Txt.split (txt ns) ("/" : Str)).map V.str)) := upd_same
    have s2 : Same H1 (upd H1 l (.lst ((Txt.split (txt ns) ("/" : Str)).map V.str))) := fun b o hb => by
      rw [upd_ne (ne_of_none hb hl)]
      exact hb
    refine ⟨l, rfl, ⟨_, SqL.of hL⟩, fun D hD => lc_it (walk_list (K := K) (a := l) (xs := (Txt.split (txt ns) ("/" : Str)).map V.str))
      (fun i H' => Same (upd H1 l (.lst ((Txt.split (txt ns) ("/" : Str)).map V.str))) H' ∧ H' D = some (.lst ((((Txt.split (txt ns) ("/" : Str)).take i).filter fun n => (n.length : Int) != 0).map V.str))) ⟨fun b o hb => by
        rw [upd_ne (ne_of_none hb hD)]
        exact hb, upd_same⟩ (fun i H' _ p => SqL.of (p.1 _ _ hL)) (fun i x H3 H4 hi p y => ?_) (fun H3 p => ?_)⟩
    · obtain ⟨rfl, hx⟩ := y
      rw [List.getElem?_map] at hx
      obtain ⟨n, hn1, rfl⟩ := Option.map_eq_some_iff.mp hx
      have a1 := split_le (List.mem_of_getElem? hn1)
      have a2 := split_count (txt ns)
      refine ⟨rfl, _, rfl, ((n.length : Int) != 0), ⟨by omega, rfl⟩, ?_⟩
      cases hb : ((n.length : Int) != 0) with
      | true =>
        refine iteT ⟨_, rfl, _, p.2, ?_, fun b o hb => ?_, ?_⟩
        · rw [List.length_map]
          have b1 := List.length_filter_le (fun n : Str => (n.length : Int) != 0) ((Txt.split (txt ns) ("/" : Str)).take i)
          have b2 : ((Txt.split (txt ns) ("/" : Str)).take i).length ≤ (Txt.split (txt ns) ("/" : Str)).length := by rw [List.length_take]; omega
          omega
        · rw [upd_ne (ne_of_none hb hD)]
          exact p.1 _ _ hb
        · rw [upd_same, List.take_add_one, hn1, List.filter_append, List.map_append]
          simp [hb]
      | false =>
        refine iteF ⟨p.1, ?_⟩
        rw [p.2, List.take_add_one, hn1, List.filter_append]
        simp [hb]
    · have e : H3 D = some (.lst (ns.map V.str)) := by
        rw [p.2, List.length_map, List.take_length, kept_txt hn]
      refine ⟨rfl, _, rfl, D, _, rfl, .inr (SqL.of e), make_ok hn fun r H' s4 P1 => q r H' (s1.trans (s2.trans (p.1.trans s4))) P1⟩
end
end Pl

namespace Pl
open PySem L2 Own TL RZ
def shr : List Str → List Str → Nat
  | x :: xs, y :: ys => if x = y then shr xs ys + 1 else 0
  | _, _ => 0
theorem shr_at : ∀ (ns ms : List Str) (i : Nat), i ≤ ns.length → i ≤ ms.length → ns.take i = ms.take i → (i = ns.length ∨ i = ms.length ∨ ns[i]? ≠ ms[i]?) → shr ns ms = i
  | [], ms, i, h1, _, _, _ => by
    have : i = 0 := by simpa using h1
    rw [this]
    cases ms <;> rfl
  | n :: ns, [], i, _, h2, _, _ => by
    have : i = 0 := by simpa using h2
    rw [this]
    rfl
  | n :: ns, m :: ms, 0, _, _, _, h => by
    have e : ¬ n = m := by
      rcases h with h | h | h
      · simp at h
      · simp at h
      · simpa using h
    show (if n = m then _ else 0) = 0
    rw [if_neg e]
  | n :: ns, m :: ms, i + 1, h1, h2, h3, h => by
    simp only [List.take_succ_cons, List.cons.injEq] at h3
    show (if n = m then shr ns ms + 1 else 0) = i + 1
    rw [if_pos h3.1, shr_at ns ms i (by simpa using h1) (by simpa using h2) h3.2 (by simpa using h)]
theorem walk_zipT {K : PySem.W.Frag} {a b : Addr} {xs ys : List V} {n : Nat} (hn : n = min xs.length ys.length) : Walk (ItzT K a b) n (fun H => SqT K H a xs ∧ SqT K H b ys) (YPair (fun i => xs[i]?) (fun i => ys[i]?)) := by
  subst hn
  refine ⟨fun i _ hi q => ?_, fun _ q => ⟨xs, ys, q.1, q.2, by omega⟩, fun i H v H' _ q y => ?_⟩
  · have h1 : i < xs.length := by omega
    have h2 : i < ys.length := by omega
    exact ⟨xs, ys, xs[i], ys[i], q.1, q.2, by simp [h1], by simp [h2]⟩
  · obtain ⟨T, x, z, h1, h2, h3, h4, h5⟩ := y
    exact ⟨T, x, z, h1, h2, h3, h4 xs q.1, h5 ys q.2⟩
def spAnd (C : Addr) : Sp := fun vs H Q _ => ∃ p q ns ms, vs = [.ref p, .ref q] ∧ PlA C H p ns ∧ PlA C H q ms ∧ Nms ns ∧ Nms ms ∧ ∀ r H', Same H H' → PlA C H' r (ns.take (shr ns ms)) → Q (.ref r) H'
section
variable {P : Program} {w : World} {K : PySem.W.Frag} {mg : Str → Option Value} {base : Heap} {f C : Addr} {mc : Value} {fd : FuncData}
theorem scAnd : FnScope ["self", "other", "shared", "mine", "theirs"] ["self", "other"] (defScope sAnd) := ⟨rfl, rfl, rfl, by decide +kernel, rfl, by decide +kernel, by decide +kernel⟩
theorem ok_and {fH fn pn : Addr} {fdH fdn : FuncData} (F : Fun K "__and__" "Place.__and__" sAnd f fd) (T : BT mg) (U : CT K mg C mc) (GH : FnOk P w K mg base CX0 4 fH fdH ["self", "k"] (spHead C)) (bH : Binds K fdH ["self", "k"] []) (mH : Meth K C "head" fH)
    (Fn : Fun K "names" "Place.names" sNames fn fdn) (bn : Binds K fdn ["self"] []) (hpn : PropOf K C "names" pn fn) : FnOk P w K mg base CX0 5 f fd ["self", "other"] (spAnd C) := by
  have GN : FnOk P w K mg base CX0 1 fn fdn ["self"] (spNames C) := ok_names Fn U
  refine F.ok scAnd (fun vs H Q E h => ?_) (fun cdv A outer s H vs Q E hr h => ?_)
  · obtain ⟨p, q, ns, ms, rfl, _⟩ := h
    rfl
  · obtain ⟨p, q, ns, ms, rfl, P1, P2, N1, N2, k⟩ := h
    obtain ⟨dx, t, hp, ht⟩ := id P1
    obtain ⟨dy, u, hq, hu⟩ := id P2
    refine ⟨_, pss_cons (ps_if (pt_not (pt_val (pe_callB call_isi (by rfl) T.isi (by decide +kernel) (pa_cons (pv 1) (pa_cons (pe_glob (v := .ref C) (by rfl) U.mgC rfl) pa_nil))))) (pss_one ps_never) pss_nil)
      (pss_cons (ps_set (i := 2) scAnd.nd rfl (Or.inl rfl) pe_int)
      (pss_cons (ps_for PassesOwn.never rfl (pi_zipA (by rfl) T.zip (pa_cons (pe_fld (pv 0) rfl) (pa_cons (pe_prop (pv 1) U.cl hpn GN (hr.mono (by decide)) bn .nil pass0 rfl) pa_nil)))
          (pg_tup rfl (pgs_cons (pg_name (i := 3) scAnd.nd rfl (Or.inl rfl)) (pgs_cons (pg_name (i := 4) scAnd.nd rfl (Or.inl rfl)) pgs_nil)))
        (pss_cons (ps_if (pt_cmpR op_ne (pv 3) (pv 4) (nomark _)) (pss_one ps_break) pss_nil)
        (pss_one (ps_aug (i := 2) scAnd.nd rfl (Or.inl rfl) pe_int ip_add))))
      (pss_one (ps_ret (pe_meth (pv 0) U.cl mH GH hr bH .nil pass0 (pa_cons (pv 2) pa_nil)))))), ?_⟩
    refine ⟨_, rfl, _, _, _, _, true, rfl, .own C, PlA.ty U P2, U.kC, true, rfl, ?_⟩
    refine iteF ?_
    have SAME : ∀ {H' : Hp}, Same H H' → SqT K H' t (ns.map V.str) ∧ SqT K H' u (ms.map V.str) := fun s1 => ⟨SqT.of (s1 _ _ ht), SqT.of (s1 _ _ hu)⟩
    have fin : ∀ (i : Nat) (H' : Hp) (v3 v4 : Option V), Same H H' → i ≤ ns.length → i ≤ ms.length → ns.take i = ms.take i → (i = ns.length ∨ i = ms.length ∨ ns[i]? ≠ ms[i]?) →
        tRet (tMeth C "head" (spHead C) [] E0 (tVar 0) (tCons (tVar 2) tNil)) { nx := fun x H' => Q V.non H', rt := Q } [some (.ref p), some (.ref q), some (.int i), v3, v4] H' := by
      intro i H' v3 v4 s1 h1 h2 h3 h4
      refine ⟨_, rfl, p, dx, _, rfl, s1 _ _ hp, pf_no _ (by decide +kernel), _, rfl, p, ns, i, rfl, P1.mono s1, N1, by omega, by omega, fun r H2 s2 P3 => k r H2 (s1.trans s2) ?_⟩
      rw [shr_at ns ms i h1 h2 h3 h4]
      simpa using P3
    refine ⟨_, rfl, p, C, dx, _, _, rfl, hp, U.cl, U.nN, pf_at _, _, rfl, q, dy, _, rfl, hq, q, dy, u, rfl, hq, t, u, _, _, rfl, .inr ⟨SqT.of ht, SqT.of hu,
      for_it (walk_zipT (n := min ns.length ms.length) (xs := ns.map V.str) (ys := ms.map V.str) (by simp)) (fun i σ H' => Same H H' ∧ ns.take i = ms.take i ∧ ∃ v3 v4, σ = [some (.ref p), some (.ref q), some (.int i), v3, v4]) ⟨Same.refl H, rfl, none, none, rfl⟩
        (fun i σ H' _ e => SAME e.1) (fun i x σ H1 H2 hi e y => ?_) (fun σ H1 e => ?_)⟩⟩
    · obtain ⟨s1, e1, v3, v4, rfl⟩ := e
      obtain ⟨tt, x, y, rfl, hn, rfl, hx, hy⟩ := y
      simp only [List.getElem?_map] at hx hy
      obtain ⟨n, hn1, rfl⟩ := Option.map_eq_some_iff.mp hx
      obtain ⟨m, hm1, rfl⟩ := Option.map_eq_some_iff.mp hy
      have s2 : Same H (upd H1 tt (.tup [.str n, .str m])) := fun b o hb => by
        rw [upd_ne (ne_of_none (s1 _ _ hb) hn)]
        exact s1 _ _ hb
      refine ⟨tt, _, rfl, SqT.of upd_same, rfl, _, _, rfl, _, _, rfl, rfl, ?_⟩
      refine ⟨_, rfl, _, rfl, rfl, _, rfl, ite2 (fun h => ?_) (fun h => ?_)⟩
      · have h' : n ≠ m := by simpa using h
        exact fin i _ _ _ s2 (by omega) (by omega) e1 (.inr (.inr (by rw [hn1, hm1]; simpa using h')))
      · have h' : n = m := by simpa using h
        refine ⟨_, rfl, _, _, rfl, rfl, ?_⟩
        refine ⟨s2, ?_, _, _, rfl⟩
        rw [List.take_add_one, List.take_add_one, e1, hn1, hm1, h']
    · obtain ⟨s1, e1, v3, v4, rfl⟩ := e
      exact fin _ _ _ _ s1 (by omega) (by omega) e1 (by omega)
theorem scCont : FnScope ["self", "x"] ["self", "x"] (defScope sCont) := ⟨rfl, rfl, rfl, by decide +kernel, rfl, by decide +kernel, by decide +kernel⟩
theorem ok_cont {fI fO pO fn pn : Addr} {fdI fdO fdn : FuncData} (F : Fun K "__contains__" "Place.__contains__" sCont f fd) (T : GT mg) (U : CT K mg C mc)
    (GI : FnOk P w K mg base CX0 3 fI fdI ["value"] (spIsPlace C)) (kI : PySem.W.keepIn K (.ref fI) = true) (bI : Binds K fdI ["value"] []) (mI : mg "is_place" = some (.ref fI))
    (FO : Fun K "of" "Place.of" sOf fO fdO) (bO : Binds K fdO ["value"] []) (mO : SMet K C mc "of" pO fO)
    (Fn : Fun K "names" "Place.names" sNames fn fdn) (bn : Binds K fdn ["self"] []) (hpn : PropOf K C "names" pn fn) : FnOk P w K mg base CX0 4 f fd ["self", "x"] (spCont C) := by
  have GN : FnOk P w K mg base CX0 1 fn fdn ["self"] (spNames C) := ok_names Fn U
  have GO : FnR P w K mg base CX0 1 fO (spOf C) := fnR_of (ok_of FO T U) bO
  refine F.ok scCont (fun vs H Q E h => ?_) (fun cdv A outer s H vs Q E hr h => ?_)
  · obtain ⟨p, q, ns, ms, rfl, _⟩ := h
    rfl
  · obtain ⟨p, q, ns, ms, rfl, P1, P2, N1, N2, k⟩ := h
    obtain ⟨dx, t, hp, ht⟩ := id P1
    obtain ⟨dy, u, hq, hu⟩ := id P2
    refine ⟨_, pss_cons (ps_if (pt_not (pt_val (pe_call GI hr (by rfl) mI kI bI .nil pass0 (pa_cons (pv 1) pa_nil)))) (pss_one (ps_ret pe_bl)) pss_nil)
      (pss_one (ps_ret (pe_cmpR (op_eqD hr.units) (pe_slice sl_tupA (pe_prop (pe_smeth (pe_glob (v := .ref C) (by rfl) U.mgC rfl) U.rd mO GO (hr.mono (by decide)) pass0 (pa_cons (pv 1) pa_nil)) U.cl hpn GN (hr.mono (by decide)) bn .nil pass0 rfl) po_none
          (po_some (pe_callB call_len_seq (by rfl) T.b.len PySem.boot_len (pa_cons (pe_fld (pv 0) rfl) pa_nil)))) (pe_fld (pv 0) rfl) (nomark _)))), ?_⟩
    refine ⟨_, rfl, q, ms, rfl, P2, _, rfl, ?_⟩
    refine iteF ⟨rfl, _, rfl, q, ms, rfl, P2, q, dy, _, rfl, hq, q, dy, u, rfl, hq, ?_⟩
    refine ⟨_, rfl, p, C, dx, _, _, rfl, hp, U.cl, U.nN, pf_at _, t, _, rfl, .inr (SqT.of ht), _, rfl, u, _, rfl, SqT.of hu, fun hw => ?_, fun hw r hr2 => ?_⟩
    · have e : ms.take ns.length = ms := by
        have h2 := hw.2
        rw [List.length_map, List.length_map, HT.sIx_nat] at h2
        exact List.take_of_length_le (by omega)
      refine ⟨_, rfl, p, C, dx, _, _, rfl, hp, U.cl, U.nN, pf_at _, _, _, .tup (SqT.of hu) (dp_strs _), .tup (SqT.of ht) (dp_strs _), shaped_strs _ fun n hn => ok_str (N2.2 n hn), shaped_strs _ fun n hn => ok_str (N1.2 n hn), ?_⟩
      rw [eqv_strs]
      have z := k H (Same.refl H)
      rw [e] at z
      exact z
    · have e : cutV (ms.map V.str) none (some (((ns.map V.str).length : Nat) : Int)) = (ms.take ns.length).map V.str := by
        by_cases h : ns.length ≤ ms.length
        · rw [cut_to (by omega) (by simp; omega), List.map_take]
          simp
        · refine absurd ⟨rfl, ?_⟩ hw
          rw [HT.sIx_nat, List.length_map, List.length_map]
          omega
      have s1 : Same H (upd H r (.tup (cutV (ms.map V.str) none (some (((ns.map V.str).length : Nat) : Int))))) := fun b o hb => by
        rw [upd_ne (ne_of_none hb hr2)]
        exact hb
      have hR : (upd H r (.tup (cutV (ms.map V.str) none (some (((ns.map V.str).length : Nat) : Int))))) r = some (.tup ((ms.take ns.length).map V.str)) := by rw [upd_same, e]
      refine ⟨_, rfl, p, C, dx, _, _, rfl, s1 _ _ hp, U.cl, U.nN, pf_at _, _, _, .tup (SqT.of hR) (dp_strs _), .tup (SqT.of (s1 _ _ ht)) (dp_strs _), shaped_strs _ fun n hn => ok_str (N2.2 n (List.mem_of_mem_take hn)), shaped_strs _ fun n hn => ok_str (N1.2 n hn), ?_⟩
      rw [eqv_strs]
      exact k _ s1
end
end Pl

namespace Pl
open PySem L2 Own TL RZ
abbrev sPen : Stmt := top 13
abbrev sDraw : Stmt := top 14
abbrev sPick : Stmt := top 15
/-- all but the object at l is as it was -/
def But (l : Addr) (H H' : Hp) : Prop := ∀ b o, H b = some o → b ≠ l → H' b = some o
theorem But.refl (l : Addr) (H : Hp) : But l H H := fun _ _ h _ => h
theorem But.trans {l : Addr} {H H1 H2 : Hp} (a : But l H H1) (b : But l H1 H2) : But l H H2 := fun c o h n => b c o (a c o h n) n
theorem But.same {l : Addr} {H H1 : Hp} (a : Same H H1) : But l H H1 := fun c o h _ => a c o h
/-- what is left of the pen: the cells at c, the index, what is left of a great one -/
structure PenAt (H : Hp) (l : Addr) (k : Nat) : Prop where
  ex : ∃ (c : Addr) (cells : List Int) (idx g : Int), H l = some (.lst [.ref c, .int idx, .int g]) ∧ H c = some (.lst (cells.map V.int)) ∧ cells.length ≤ 63 ∧ 0 ≤ idx ∧ idx ≤ (k : Nat)
theorem PenAt.mono {H H' : Hp} {l : Addr} {k k' : Nat} (p : PenAt H l k) (s : Same H H') (h : k ≤ k') : PenAt H' l k' := by
  obtain ⟨c, cells, idx, g, h1, h2, h3, h4, h5⟩ := p.ex
  exact ⟨c, cells, idx, g, s _ _ h1, s _ _ h2, h3, h4, by omega⟩
def spPen (K : PySem.W.Frag) : Sp := fun vs H Q _ => ∃ (a : Addr) (ns : List Int), vs = [.ref a] ∧ SqL K H a (ns.map V.int) ∧ ns.length ≤ 63 ∧ ∀ l H', Same H H' → H l = none → PenAt H' l 0 → Q (.ref l) H'
def spDraw : Sp := fun vs H Q _ => ∃ (l : Addr) (many : Int) (k : Nat), vs = [.ref l, .int many] ∧ PenAt H l k ∧ k ≤ 100000 ∧ 0 < many ∧ many < 1000000 ∧ ∀ (r : Int) H', 0 ≤ r → r < many → But l H H' → PenAt H' l (k + 1) → Q (.int r) H'
def spPick : Sp := fun vs H Q _ => ∃ (l m : Addr) (xs : List V) (k : Nat), vs = [.ref l, .ref m] ∧ PenAt H l k ∧ k ≤ 100000 ∧ H m = some (.lst xs) ∧ m ≠ l ∧ 0 < xs.length ∧ xs.length < 1000000 ∧ ∀ (j : Nat) x H', xs[j]? = some x → But l H H' → PenAt H' l (k + 1) → Q x H'
theorem dp_ints {K : PySem.W.Frag} {H : Hp} : ∀ ns : List Int, DpAll K H (ns.map V.int) (ns.map PyData.int)
  | [] => .nil
  | n :: ns => .cons (.int n) (dp_ints ns)
theorem eqv_nil (ns : List Int) : PyData.eqv (.list (ns.map PyData.int)) (.list []) = ns.isEmpty := by
  show PyData.eqvAll _ _ = _
  cases ns <;> simp [PyData.eqvAll]
theorem shaped_nil : SeqAt.shaped (.list []) = true := by decide +kernel
theorem stir_bound {s i c d e : Int} (s0 : 0 ≤ s) (s1 : s < 2147483629) (i0 : 0 ≤ i) (i1 : i ≤ 100000) (c0 : 0 ≤ c) (c1 : c ≤ 1000000) (d0 : 0 ≤ d) (d1 : d ≤ 1000000) (e0 : 0 ≤ e) (e1 : e ≤ 1000000) :
    (s * (2 * i + c) + d * i * i + e).natAbs < 2 ^ 64 := by
  have a0 : 0 ≤ s * (2 * i + c) := Int.mul_nonneg s0 (by omega)
  have a1 : s * (2 * i + c) ≤ 2147483629 * 1200000 := Int.mul_le_mul (by omega) (by omega) (by omega) (by omega)
  have b0 : 0 ≤ d * i := Int.mul_nonneg d0 i0
  have b1 : d * i ≤ 1000000 * 100000 := Int.mul_le_mul d1 i1 i0 (by omega)
  have b2 : 0 ≤ d * i * i := Int.mul_nonneg b0 i0
  have b3 : d * i * i ≤ (1000000 * 100000) * 100000 := Int.mul_le_mul b1 i1 i0 (by omega)
  omega
section
variable {P : Program} {w : World} {K : PySem.W.Frag} {mg : Str → Option Value} {base : Heap} {f : Addr} {fd : FuncData}
theorem scPen : FnScope ["_law_script"] ["_law_script"] (defScope sPen) := ⟨rfl, rfl, rfl, by decide +kernel, rfl, by decide +kernel, by decide +kernel⟩
theorem ok_pen (F : Fun K "_law_pen" "_law_pen" sPen f fd) (T : BT mg) : FnOk P w K mg base CX0 1 f fd ["_law_script"] (spPen K) := by
  refine F.ok scPen (fun vs H Q E h => ?_) (fun cdv A outer s H vs Q E hr h => ?_)
  · obtain ⟨a, ns, rfl, _⟩ := h
    rfl
  · obtain ⟨a, ns, rfl, hs, hl, k⟩ := h
    refine ⟨_, pss_one (ps_ret (pe_lst (pa_cons (pe_callTy call_list_of (by rfl) T.list (by decide +kernel) (pa_cons (pe_slice sl_list (pv 0) po_none (po_some pe_int)) pa_nil)) (pa_cons pe_int (pa_cons pe_int pa_nil))))), ?_⟩
    refine ⟨_, rfl, 63, rfl, a, _, rfl, hs, fun p hp => ⟨p, _, rfl, .inl (SqL.of upd_same), fun c hc => ⟨by show 3 ≤ sizeLine; decide, fun l hl2 => ?_⟩⟩⟩
    have n1 : p ≠ c := fun e => by
      rw [← e, upd_same] at hc
      cases hc
    have n2 : c ≠ l := fun e => by
      rw [← e, upd_same] at hl2
      cases hl2
    have hl3 : H l = none := by
      rw [upd_ne n2.symm] at hl2
      by_cases e : l = p
      · rw [e]
        exact hp
      · rw [upd_ne e] at hl2
        exact hl2
    have ec : cutV (ns.map V.int) none (some 63) = ns.map V.int := by
      unfold cutV
      rw [HT.sIx_none, show (63 : Int) = ((63 : Nat) : Int) from rfl, HT.sIx_nat, List.drop_zero, Nat.sub_zero, List.length_map]
      exact List.take_of_length_le (by rw [List.length_map]; omega)
    rw [ec]
    have hc0 : H c = none := by
      rw [upd_ne n1.symm] at hc
      exact hc
    refine k l _ (fun b o hb => ?_) hl3 ⟨c, ns, 0, 0, upd_same, by rw [upd_ne n2, upd_same], hl, Int.le_refl _, Int.le_refl _⟩
    rw [upd_ne (ne_of_none hb hl3), upd_ne (ne_of_none hb hc0), upd_ne (ne_of_none hb hp)]
    exact hb
theorem scDraw : FnScope ["_law_pen_here", "_law_many", "_law_digit", "_law_at", "_law_cell", "_law_great", "_law_stirred"] ["_law_pen_here", "_law_many"] (defScope sDraw) := ⟨rfl, rfl, rfl, by decide +kernel, rfl, by decide +kernel, by decide +kernel⟩
theorem ok_draw (F : Fun K "_law_draw" "_law_draw" sDraw f fd) (T : BT mg) : FnOk P w K mg base CX0 1 f fd ["_law_pen_here", "_law_many"] spDraw := by
  refine F.ok scDraw (fun vs H Q E h => ?_) (fun cdv A outer s H vs Q E hr h => ?_)
  · obtain ⟨l, many, k, rfl, _⟩ := h
    rfl
  · obtain ⟨l, many, k, rfl, PN, hk, m0, m1, q⟩ := h
    obtain ⟨c, cells, idx, g, hl, hc, h63, i0, i1⟩ := PN.ex
    have ncl : c ≠ l := ne_of hc hl (by
      intro z
      injection z with z
      cases cells with
      | nil => cases z
      | cons x r =>
        injection z with z _
        cases z)
    refine ⟨_, pss_cons (ps_if (pt_cmpR op_gt (pe_ix ix_list (pv 0) pe_int (fun _ _ => rfl)) pe_int (nomark _))
        (pss_cons (ps_set (i := 2) scDraw.nd rfl (Or.inl rfl) (pe_op op_mod (pe_callTy call_int1 (by rfl) T.int (by decide +kernel) (pa_cons (pe_ix ix_list (pv 0) pe_int (fun _ _ => rfl)) pa_nil)) (pv 1)))
        (pss_cons (ps_asg (pe_op op_fdiv (pe_callTy call_int1 (by rfl) T.int (by decide +kernel) (pa_cons (pe_ix ix_list (pv 0) pe_int (fun _ _ => rfl)) pa_nil)) (pv 1)) (pg_sub (pv 0) pe_int set_list))
        (pss_one (ps_ret (pv 2))))) pss_nil)
      (pss_cons (ps_set (i := 3) scDraw.nd rfl (Or.inl rfl) (pe_ix ix_list (pv 0) pe_int (fun _ _ => rfl)))
      (pss_cons (ps_asg (pe_op op_add (pv 3) pe_int) (pg_sub (pv 0) pe_int set_list))
      (pss_cons (ps_set (i := 4) scDraw.nd rfl (Or.inl rfl) (pe_op op_add (pe_op op_mul pe_int (pv 3)) pe_int))
      (C8.pss_cut (ps_if (pt_cmpR (op_neD hr.units) (pe_ix ix_list (pv 0) pe_int (fun _ _ => rfl)) (pe_lst pa_nil) (nomark _))
        (pss_one (ps_set (i := 4) scDraw.nd rfl (Or.inl rfl) (pe_ix ix_list (pe_ix ix_list (pv 0) pe_int (fun _ _ => rfl)) (pe_op op_mod (pe_callTy call_int1 (by rfl) T.int (by decide +kernel) (pa_cons (pv 3) pa_nil))
          (pe_callB call_len_seq (by rfl) T.len PySem.boot_len (pa_cons (pe_ix ix_list (pv 0) pe_int (fun _ _ => rfl)) pa_nil))) (fun _ _ => rfl)))) pss_nil)
      (C8.pss_cut (ps_if (PW.pt (pw_and (pt_cmpR op_lt (pv 3) (pe_callB call_len_seq (by rfl) T.len PySem.boot_len (pa_cons (pe_ix ix_list (pv 0) pe_int (fun _ _ => rfl)) pa_nil)) (nomark _))
          (pw_and1 (pt_cmpR op_ge (pe_callB call_abs (by rfl) T.abs (by decide +kernel) (pa_cons (pv 4) pa_nil)) (pe_op op_pow pe_int pe_int) (nomark _)))))
        (pss_cons (ps_set (i := 5) scDraw.nd rfl (Or.inl rfl) (pe_op op_add (pe_op op_mul pe_int (pe_op op_sub (pe_callB call_abs (by rfl) T.abs (by decide +kernel) (pa_cons (pv 4) pa_nil)) (pe_op op_pow pe_int pe_int)))
            (pe_callTy call_int1 (by rfl) T.int (by decide +kernel) (pa_cons (pe_cmpR op_lt (pv 4) pe_int (nomark _)) pa_nil))))
        (pss_cons (ps_asg (pe_op op_fdiv (pe_callTy call_int1 (by rfl) T.int (by decide +kernel) (pa_cons (pv 5) pa_nil)) (pv 1)) (pg_sub (pv 0) pe_int set_list))
        (pss_one (ps_ret (pe_op op_mod (pe_callTy call_int1 (by rfl) T.int (by decide +kernel) (pa_cons (pv 5) pa_nil)) (pv 1)))))) pss_nil)
      (pss_cons (ps_set (i := 6) scDraw.nd rfl (Or.inl rfl) (pe_op op_mod (pe_callTy call_int1 (by rfl) T.int (by decide +kernel) (pa_cons (pe_op op_pow (pe_op op_add (pe_op op_add (pe_op op_mod (pe_callTy call_int1 (by rfl) T.int (by decide +kernel) (pa_cons (pv 4) pa_nil)) pe_int)
          (pe_op op_mul pe_int (pv 3))) pe_int) pe_int) pa_nil)) pe_int))
      (pss_cons (ps_set (i := 6) scDraw.nd rfl (Or.inl rfl) (pe_op op_mod (pe_callTy call_int1 (by rfl) T.int (by decide +kernel) (pa_cons (pe_op op_pow (pe_op op_add (pe_op op_add (pe_op op_mul (pv 6) (pe_op op_add (pe_op op_mul pe_int (pv 3)) pe_int))
          (pe_op op_mul (pe_op op_mul pe_int (pv 3)) (pv 3))) pe_int) pe_int) pa_nil)) pe_int))
      (pss_one (ps_ret (pe_op op_mod (pe_callTy call_int1 (by rfl) T.int (by decide +kernel) (pa_cons (pe_op op_fdiv (pv 6) pe_int) pa_nil)) (pv 1))))))))))), ?_⟩
    have il0 : atI [V.ref c, V.int idx, V.int g] 0 = some (.ref c) := atI_nat (j := 0) rfl
    have fin : ∀ (r g' : Int) (H1 : Hp), 0 ≤ r → r < many → But l H H1 → H1 l = some (.lst [.ref c, .int idx, .int g']) → Q (.int r) H1 := fun r g' H1 r0 r1 b1 e =>
      q r H1 r0 r1 b1 ⟨c, cells, idx, g', e, b1 _ _ hc ncl, h63, i0, by omega⟩
    have fin2 : ∀ (r g' : Int) (H1 : Hp), 0 ≤ r → r < many → But l H H1 → H1 l = some (.lst [.ref c, .int (idx + 1), .int g']) → Q (.int r) H1 := fun r g' H1 r0 r1 b1 e =>
      q r H1 r0 r1 b1 ⟨c, cells, idx + 1, g', e, b1 _ _ hc ncl, h63, by omega, by omega⟩
    refine ⟨_, rfl, l, _, 2, _, rfl, rfl, SqL.of hl, atI_nat (j := 2) rfl, _, _, rfl, rfl, _, rfl, ite2 (fun hg => ?_) (fun hg => ?_)⟩
    · refine ⟨_, rfl, l, _, 2, _, rfl, rfl, SqL.of hl, atI_nat (j := 2) rfl, .inl ⟨_, rfl, _, rfl, _, _, rfl, rfl, m0, ?_⟩⟩
      refine ⟨_, rfl, l, _, 2, _, rfl, rfl, SqL.of hl, atI_nat (j := 2) rfl, .inl ⟨_, rfl, _, rfl, _, _, rfl, rfl, ⟨m0, by omega⟩, _, rfl, l, _, 2, 2, rfl, rfl, hl, rfl, _, rfl, ?_⟩⟩
      exact fin _ _ _ (Int.emod_nonneg _ (by omega)) (Int.emod_lt_of_pos _ m0) (fun b o hb hn => by rw [upd_ne hn]; exact hb) upd_same
    · refine ⟨_, rfl, l, _, 1, _, rfl, rfl, SqL.of hl, atI_nat (j := 1) rfl, ?_⟩
      refine ⟨_, rfl, _, _, rfl, rfl, _, rfl, l, _, 1, 1, rfl, rfl, hl, rfl, ?_⟩
      refine ⟨_, rfl, _, _, rfl, rfl, .inl ⟨by decide, by decide⟩, _, _, rfl, rfl, ?_⟩
      have hl1 : (upd H l (.lst [V.ref c, V.int (idx + 1), V.int g])) l = some (.lst [V.ref c, V.int (idx + 1), V.int g]) := upd_same
      have b0 : But l H (upd H l (.lst [V.ref c, V.int (idx + 1), V.int g])) := fun b o hb hn => by
        rw [upd_ne hn]
        exact hb
      refine ⟨fun σ H' => ∃ cell : Int, σ = [some (.ref l), some (.int many), none, some (.int idx), some (.int cell), none, none] ∧ But l H H' ∧ H' l = some (.lst [.ref c, .int (idx + 1), .int g]), ?_, ?_⟩
      · refine ⟨_, rfl, l, _, 0, _, rfl, rfl, SqL.of hl1, atI_nat (j := 0) rfl, by show 0 ≤ sizeLine; decide, fun p hp => ?_⟩
        have npl : l ≠ p := fun e => by
          rw [← e, upd_same] at hp
          cases hp
        have hl2 : (upd (upd H l (.lst [V.ref c, V.int (idx + 1), V.int g])) p (.lst [])) l = some (.lst [V.ref c, V.int (idx + 1), V.int g]) := by rw [upd_ne npl, upd_same]
        have b2 : But l H (upd (upd H l (.lst [V.ref c, V.int (idx + 1), V.int g])) p (.lst [])) := fun b o hb hn => by
          have e := b0 b o hb hn
          rw [upd_ne (ne_of_none e hp)]
          exact e
        have hc2 := b2 _ _ hc ncl
        have hp2 : (upd (upd H l (.lst [V.ref c, V.int (idx + 1), V.int g])) p (.lst [])) p = some (.lst []) := upd_same
        refine ⟨_, _, .lst (SqL.of hc2) (dp_ints cells), .lst (SqL.of hp2) .nil, ?_, shaped_nil, _, rfl, ?_⟩
        · exact PySem.W.shaped_ints cells
        · rw [eqv_nil]
          cases cells with
          | nil => exact ⟨_, rfl, b2, hl2⟩
          | cons x r =>
            have hn : (0 : Int) < ((List.map V.int (x :: r)).length : Nat) := by simp
            have e0 := Int.emod_nonneg idx (show ((List.map V.int (x :: r)).length : Int) ≠ 0 by omega)
            have e1 := Int.emod_lt_of_pos idx hn
            obtain ⟨j, ej⟩ : ∃ j : Nat, idx % ((List.map V.int (x :: r)).length : Nat) = (j : Int) := ⟨(idx % ((List.map V.int (x :: r)).length : Nat)).toNat, by omega⟩
            have hj : j < (x :: r).length := by
              rw [List.length_map] at e1 ej
              omega
            refine ⟨_, rfl, l, _, 0, _, rfl, rfl, SqL.of hl2, atI_nat (j := 0) rfl, _, rfl, .inl ⟨_, rfl, _, rfl, l, _, 0, _, rfl, rfl, SqL.of hl2, atI_nat (j := 0) rfl, c, _, rfl, .inl (SqL.of hc2), _, _, rfl, rfl, hn, c, _, _, V.int ((x :: r)[j]), rfl, rfl, SqL.of hc2, ?_, _, rfl, b2, hl2⟩⟩
            exact at_of (j := j) ej (by rw [List.getElem?_map, List.getElem?_eq_getElem hj]; rfl)
      · rintro σ H' ⟨cell, rfl, b3, hl3⟩
        have hc3 := b3 _ _ hc ncl
        refine ⟨fun σ H' => ∃ cell : Int, σ = [some (.ref l), some (.int many), none, some (.int idx), some (.int cell), none, none] ∧ But l H H' ∧ H' l = some (.lst [.ref c, .int (idx + 1), .int g]), ?_, ?_⟩
        · refine ⟨_, rfl, _, rfl, l, _, 0, _, rfl, rfl, SqL.of hl3, atI_nat (j := 0) rfl, c, _, rfl, .inl (SqL.of hc3), _, _, rfl, rfl, _, rfl, ite2 (fun ha => ?_) (fun ha => ?_)⟩
          · refine ⟨_, rfl, _, rfl, _, _, rfl, rfl, ⟨by decide, by decide, by decide⟩, _, _, rfl, rfl, _, rfl, ite2 (fun hb => ?_) (fun hb => ?_)⟩
            · have m2 : ∀ (gr : Int), _root_.True := fun _ => trivial
              refine ⟨_, rfl, _, rfl, _, _, rfl, rfl, ⟨by decide, by decide, by decide⟩, _, _, rfl, rfl, _, _, rfl, rfl, .inl ⟨by decide, by decide⟩, _, rfl, _, _, rfl, rfl, .inr ⟨_, rfl, _, _, rfl, rfl, ?_⟩⟩
              refine ⟨_, rfl, .inl ⟨_, rfl, _, rfl, _, _, rfl, rfl, ⟨m0, by omega⟩, _, rfl, l, _, 2, 2, rfl, rfl, hl3, rfl, _, rfl, .inl ⟨_, rfl, _, rfl, _, _, rfl, rfl, m0, ?_⟩⟩⟩
              refine fin2 _ _ _ (Int.emod_nonneg _ (by omega)) (Int.emod_lt_of_pos _ m0) (fun b o hb hn => ?_) upd_same
              rw [upd_ne hn]
              exact b3 _ _ hb hn
            · exact ⟨_, rfl, b3, hl3⟩
          · exact ⟨_, rfl, b3, hl3⟩
        · rintro σ H' ⟨cell, rfl, b3, hl3⟩
          refine ⟨_, rfl, .inl ⟨_, rfl, _, _, rfl, rfl, (by show (0 : Int) < _; decide), _, rfl, _, _, rfl, rfl, .inl ⟨by decide, by decide⟩, _, _, rfl, rfl, _, _, rfl, rfl, _, _, rfl, rfl, ⟨by decide, by decide, by omega⟩, .inl ⟨_, rfl, _, _, rfl, rfl, (by show (0 : Int) < _; decide), ?_⟩⟩⟩
          refine ⟨_, rfl, _, rfl, _, _, rfl, rfl, .inl ⟨by decide, by decide⟩, _, _, rfl, rfl, _, _, rfl, rfl, .inl ⟨by omega, by omega⟩, _, rfl, _, _, rfl, rfl, .inl ⟨by decide, by decide⟩, _, rfl, _, _, rfl, rfl, .inl ⟨by omega, by omega⟩, _, _, rfl, rfl, _, _, rfl, rfl, _, _, rfl, rfl, ⟨by decide, by decide, ?_⟩,
            .inl ⟨_, rfl, _, _, rfl, rfl, (by show (0 : Int) < _; decide), ?_⟩⟩
          · exact stir_bound (Int.emod_nonneg _ (by decide)) (Int.emod_lt_of_pos _ (by decide)) i0 (by omega) (by decide) (by decide) (by decide) (by decide) (by decide) (by decide)
          · refine ⟨_, rfl, _, _, rfl, rfl, ⟨by decide, by decide⟩, .inl ⟨_, rfl, _, rfl, _, _, rfl, rfl, m0, ?_⟩⟩
            exact fin2 _ _ _ (Int.emod_nonneg _ (by omega)) (Int.emod_lt_of_pos _ m0) b3 hl3
theorem scPick : FnScope ["_law_pen_here", "_law_some"] ["_law_pen_here", "_law_some"] (defScope sPick) := ⟨rfl, rfl, rfl, by decide +kernel, rfl, by decide +kernel, by decide +kernel⟩
theorem ok_pick {fD : Addr} {fdD : FuncData} (F : Fun K "_law_pick" "_law_pick" sPick f fd) (T : BT mg) (FD : Fun K "_law_draw" "_law_draw" sDraw fD fdD) (bD : Binds K fdD ["_law_pen_here", "_law_many"] []) (mD : mg "_law_draw" = some (.ref fD)) :
    FnOk P w K mg base CX0 2 f fd ["_law_pen_here", "_law_some"] spPick := by
  have GD : FnOk P w K mg base CX0 1 fD fdD ["_law_pen_here", "_law_many"] spDraw := ok_draw FD T
  refine F.ok scPick (fun vs H Q E h => ?_) (fun cdv A outer s H vs Q E hr h => ?_)
  · obtain ⟨l, m, xs, k, rfl, _⟩ := h
    rfl
  · obtain ⟨l, m, xs, k, rfl, PN, hk, hm, nml, x0, x1, q⟩ := h
    refine ⟨_, pss_one (ps_ret (pe_ix ix_list (pv 1) (pe_call GD hr (by rfl) mD FD.kp bD .nil pass0 (pa_cons (pv 0) (pa_cons (pe_callB call_len_seq (by rfl) T.len PySem.boot_len (pa_cons (pv 1) pa_nil)) pa_nil))) (fun _ _ => rfl))), ?_⟩
    refine ⟨_, rfl, _, rfl, _, rfl, m, _, rfl, .inl (SqL.of hm), l, _, k, rfl, PN, hk, by omega, by omega, fun r H' r0 r1 b1 p1 => ?_⟩
    obtain ⟨j, rfl⟩ : ∃ j : Nat, r = (j : Int) := ⟨r.toNat, by omega⟩
    have hj : j < xs.length := by omega
    exact ⟨m, xs, j, xs[j], rfl, rfl, SqL.of (b1 _ _ hm nml), atI_nat (List.getElem?_eq_getElem hj), q j _ H' (List.getElem?_eq_getElem hj) b1 p1⟩
end
end Pl

namespace Pl
open PySem L2 Own TL RZ
structure Ad where
  (C gAdd gAnd gCont gLen gBool gEq gAhead gHead gUp pUp gNames pNames gText pText gRead pRead fMk fDraw fPick fPen : Addr)
  mc : Value
  (fdAhead fdHead fdUp fdNames fdText fdDraw fdPick fdPen : FuncData)
/-- what the program's methods do -/
structure Wo (P : Program) (w : World) (K : PySem.W.Frag) (mg : Str → Option Value) (base : Heap) (a : Ad) : Prop where
  T : GT mg
  U : CT K mg a.C a.mc
  sf : PySem.W.selfFirst K a.C = true
  ne : PySem.W.findIn K (.ref a.C) "__ne__" = some (some (.builtin "object.__ne__"))
  sub : PySem.W.subIn K (.ref a.C) (.type "object") = some true
  mAdd : Meth K a.C "__add__" a.gAdd
  cAdd : FnR P w K mg base CX0 4 a.gAdd (spAdd a.C)
  mAnd : Meth K a.C "__and__" a.gAnd
  cAnd : FnR P w K mg base CX0 5 a.gAnd (spAnd a.C)
  mCont : Meth K a.C "__contains__" a.gCont
  cCont : FnR P w K mg base CX0 4 a.gCont (spCont a.C)
  mLen : Meth K a.C "__len__" a.gLen
  cLen : FnR P w K mg base CX0 1 a.gLen (spLen a.C)
  mBool : Meth K a.C "__bool__" a.gBool
  cBool : FnR P w K mg base CX0 1 a.gBool (spBool a.C)
  mEq : Meth K a.C "__eq__" a.gEq
  cEq : FnR P w K mg base CX0 1 a.gEq (spEq a.C)
  mAhead : Meth K a.C "is_ahead" a.gAhead
  cAhead : FnOk P w K mg base CX0 3 a.gAhead a.fdAhead ["self", "b"] (spAhead a.C)
  bAhead : Binds K a.fdAhead ["self", "b"] []
  mHead : Meth K a.C "head" a.gHead
  cHead : FnOk P w K mg base CX0 4 a.gHead a.fdHead ["self", "k"] (spHead a.C)
  bHead : Binds K a.fdHead ["self", "k"] []
  kHead : ∀ (s : Shared) (u v : Value), K.In s.heap → BindsTo s a.fdHead ⟨[u], [("k", v)]⟩ [("self", u), ("k", v)]
  pUp : PropOf K a.C "up" a.pUp a.gUp
  cUp : FnOk P w K mg base CX0 5 a.gUp a.fdUp ["self"] (spUp a.C)
  bUp : Binds K a.fdUp ["self"] []
  pNames : PropOf K a.C "names" a.pNames a.gNames
  cNames : FnOk P w K mg base CX0 1 a.gNames a.fdNames ["self"] (spNames a.C)
  bNames : Binds K a.fdNames ["self"] []
  pText : PropOf K a.C "text" a.pText a.gText
  cText : FnOk P w K mg base CX0 1 a.gText a.fdText ["self"] (spText a.C)
  bText : Binds K a.fdText ["self"] []
  mRead : ClX.CMet K a.C a.mc "read" a.pRead a.gRead
  cRead : FnR P w K mg base CX0 4 a.gRead (spRead a.C)
  mMk : Mk K a.C a.fMk
  cMk : FnR P w K mg base CX0 2 a.fMk (spMk a.C)
  mDraw : mg "_law_draw" = some (.ref a.fDraw)
  kDraw : PySem.W.keepIn K (.ref a.fDraw) = true
  cDraw : FnOk P w K mg base CX0 1 a.fDraw a.fdDraw ["_law_pen_here", "_law_many"] spDraw
  bDraw : Binds K a.fdDraw ["_law_pen_here", "_law_many"] []
  mPick : mg "_law_pick" = some (.ref a.fPick)
  kPick : PySem.W.keepIn K (.ref a.fPick) = true
  cPick : FnOk P w K mg base CX0 2 a.fPick a.fdPick ["_law_pen_here", "_law_some"] spPick
  bPick : Binds K a.fdPick ["_law_pen_here", "_law_some"] []
  mPen : mg "_law_pen" = some (.ref a.fPen)
  kPen : PySem.W.keepIn K (.ref a.fPen) = true
  cPen : FnOk P w K mg base CX0 1 a.fPen a.fdPen ["_law_script"] (spPen K)
  bPen : Binds K a.fdPen ["_law_script"] []
theorem while_m {c : TT} {tb : TS} {D : Ends} {σ : L2.St} {H : Hp} (Pv : Nat → L2.St → Hp → Prop) (m0 : Nat) (h0 : Pv m0 σ H)
    (hs : ∀ m σ H, Pv m σ H → c σ H fun b H1 => if b = true then ∃ N : L2.St → Hp → Prop, (∀ σ' H', N σ' H' → ∃ m', m' < m ∧ Pv m' σ' H') ∧ tb { D with nx := N, ct := N, bk := D.nx } σ H1 else D.nx σ H1) : tWhile c tb D σ H :=
  ⟨Pv, ⟨m0, h0⟩, hs⟩
theorem PlA.but {C l : Addr} {H H' : Hp} {p : Addr} {ns : List Str} {xs : List V} (h : PlA C H p ns) (b : But l H H') (hl : H l = some (.lst xs)) : PlA C H' p ns := by
  obtain ⟨dx, t, h1, h2⟩ := h
  exact ⟨dx, t, b _ _ h1 (ne_of h1 hl (by intro z; cases z)), b _ _ h2 (ne_of h2 hl (by intro z; cases z))⟩
theorem PenAt.lst {H : Hp} {l : Addr} {k : Nat} (p : PenAt H l k) : ∃ xs, H l = some (.lst xs) := by
  obtain ⟨c, cells, idx, g, h1, _⟩ := p.ex
  exact ⟨_, h1⟩
abbrev sLPlace : Stmt := top 16
abbrev sWay : Stmt := top 17
def spLPlace (C : Addr) : Sp := fun vs H Q _ => ∃ (l m : Addr) (pool : List Str) (k : Nat), vs = [.ref l, .ref m] ∧ PenAt H l k ∧ k ≤ 90000 ∧ H m = some (.lst (pool.map V.str)) ∧ m ≠ l ∧ pool ≠ [] ∧ pool.length < 1000 ∧ (∀ n ∈ pool, okN n = true) ∧
  ∀ p ns H', But l H H' → PlA C H' p ns → Nms ns → (∀ n ∈ ns, n ∈ pool) → PenAt H' l (k + 9) → Q (.ref p) H'
section
variable {P : Program} {w : World} {K : PySem.W.Frag} {mg : Str → Option Value} {base : Heap} {a : Ad} {f : Addr} {fd : FuncData}
theorem scLPlace : FnScope ["_law_pen_here", "_law_pool", "_law_found", "_law_step_at"] ["_law_pen_here", "_law_pool"] (defScope sLPlace) := ⟨rfl, rfl, rfl, by decide +kernel, rfl, by decide +kernel, by decide +kernel⟩
theorem ok_lplace (W : Wo P w K mg base a) (F : Fun K "_law_place" "_law_place" sLPlace f fd) : FnOk P w K mg base CX0 5 f fd ["_law_pen_here", "_law_pool"] (spLPlace a.C) := by
  refine F.ok scLPlace (fun vs H Q E h => ?_) (fun cdv A outer s H vs Q E hr h => ?_)
  · obtain ⟨l, m, pool, k, rfl, _⟩ := h
    rfl
  · obtain ⟨l, m, pool, k, rfl, PN, hk, hm, nml, hpe, hpl, hpo, q⟩ := h
    obtain ⟨lx, hlx⟩ := PN.lst
    refine ⟨_, pss_cons (ps_set (i := 2) scLPlace.nd rfl (Or.inl rfl) (pe_makeR0 W.mMk W.cMk (hr.mono (by decide)) (by rfl) W.U.mgC pass0))
      (pss_cons (ps_for PassesOwn.never rfl (pi_range1 (by rfl) W.T.b.range (pa_cons (pe_call W.cPick (hr.mono (by decide)) (by rfl) W.mPick W.kPick W.bPick .nil pass0 (pa_cons (pv 0) (pa_cons (pe_lst (pa_cons pe_int (pa_cons pe_int (pa_cons pe_int (pa_cons pe_int (pa_cons pe_int (pa_cons pe_int pa_nil))))))) pa_nil))) pa_nil))
          (pg_name (i := 3) scLPlace.nd rfl (Or.inl rfl))
        (pss_one (ps_set (i := 2) scLPlace.nd rfl (Or.inl rfl) (pe_op (op_addS W.sf W.mAdd.at_ W.mAdd.fn W.cAdd hr pass0) (pv 2) (pe_call W.cPick (hr.mono (by decide)) (by rfl) W.mPick W.kPick W.bPick .nil pass0 (pa_cons (pv 0) (pa_cons (pv 1) pa_nil)))))))
      (pss_one (ps_ret (pv 2)))), ?_⟩
    intro p0 dx0 hx0 hdx0 hne0
    refine make_at (C := a.C) (ns := []) ⟨by simp, by simp⟩ hx0 hdx0 hne0 (fun H1 s1 P0 => ?_)
    refine ⟨_, rfl, ⟨by show 6 ≤ sizeLine; decide, fun ml hml => ⟨l, ml, _, k, rfl, PN.mono (fun b o hb => by
      rw [upd_ne (ne_of_none (s1 _ _ hb) hml)]
      exact s1 _ _ hb) (Nat.le_refl _), by omega, upd_same, fun e => ?_, by decide, by decide, fun j x H2 hj b2 p2 => ?_⟩⟩⟩
    · rw [e, s1 _ _ hlx] at hml
      cases hml
    · have bH : But l H H2 := fun b o hb hn => b2 b o (by
        rw [upd_ne (ne_of_none (s1 _ _ hb) hml)]
        exact s1 _ _ hb) hn
      obtain ⟨n, rfl, hn8⟩ : ∃ n : Nat, x = .int n ∧ n ≤ 8 := by
        have hx := List.mem_of_getElem? hj
        simp only [List.mem_cons, List.not_mem_nil, or_false] at hx
        rcases hx with h | h | h | h | h | h
        · exact ⟨0, h, by omega⟩
        · exact ⟨1, h, by omega⟩
        · exact ⟨2, h, by omega⟩
        · exact ⟨3, h, by omega⟩
        · exact ⟨5, h, by omega⟩
        · exact ⟨8, h, by omega⟩
      have P2 : PlA a.C H2 p0 [] := (P0.mono (fun b o hb => by
        rw [upd_ne (ne_of_none hb hml)]
        exact hb)).but b2 (by rw [upd_ne (ne_of_none (s1 _ _ hlx) hml)]; exact s1 _ _ hlx)
      refine ⟨n, rfl, by omega, by omega, for_it (walk_range (lo := 0) (n := (n : Int).toNat)) (fun i σ H' => ∃ p ns v, σ = [some (.ref l), some (.ref m), some (.ref p), v] ∧ But l H H' ∧ PlA a.C H' p ns ∧ ns.length = i ∧ (∀ x ∈ ns, x ∈ pool) ∧ PenAt H' l (k + 1 + i))
        ⟨p0, [], none, rfl, bH, P2, rfl, by simp, p2⟩ (fun _ _ _ _ _ => trivial) (fun i x σ H3 H4 hi e y => ?_) (fun σ H3 e => ?_)⟩
      · obtain ⟨p, ns, v, rfl, b3, P3, hl3, hin, p3⟩ := e
        obtain ⟨rfl, rfl⟩ := y
        have hi8 : i < 8 := by omega
        obtain ⟨lx3, hlx3⟩ := p3.lst
        refine ⟨_, rfl, _, rfl, _, rfl, l, m, _, k + 1 + i, rfl, p3, by omega, b3 _ _ hm nml, nml, ?_, by rw [List.length_map]; omega, fun j x H5 hj b5 p5 => ?_⟩
        · rw [List.length_map]
          exact List.length_pos_iff.mpr hpe
        · rw [List.getElem?_map] at hj
          obtain ⟨nm, hnm, rfl⟩ := Option.map_eq_some_iff.mp hj
          have hmem := List.mem_of_getElem? hnm
          have P5 := P3.but b5 hlx3
          obtain ⟨dx, t, h1, h2⟩ := id P5
          refine ⟨p, dx, _, nm, rfl, rfl, h1, p, ns, nm, rfl, P5, ⟨by rw [List.length_append, List.length_singleton]; omega, fun z hz => ?_⟩, fun r H6 s6 P6 => ?_⟩
          · rcases List.mem_append.mp hz with h | h
            · exact hpo z (hin z h)
            · rw [List.mem_singleton.mp h]
              exact hpo _ hmem
          · refine ⟨r, ns ++ [nm], _, rfl, fun b o hb hn => s6 _ _ (b5 _ _ (b3 _ _ hb hn) hn), P6, by rw [List.length_append, List.length_singleton, hl3], fun z hz => ?_, p5.mono s6 (by omega)⟩
            rcases List.mem_append.mp hz with h | h
            · exact hin z h
            · rw [List.mem_singleton.mp h]
              exact hmem
      · obtain ⟨p, ns, v, rfl, b3, P3, hl3, hin, p3⟩ := e
        exact ⟨_, rfl, q p ns H3 b3 P3 ⟨by omega, fun z hz => hpo z (hin z hz)⟩ hin (p3.mono (Same.refl _) (by omega))⟩
end
end Pl

namespace Pl
open PySem L2 Own TL RZ
/-- the places of a way stand in the list at l -/
def WayAt (C : Addr) (H : Hp) (l p : Addr) (ns : List Str) : Prop :=
  ∃ ps : List Addr, H l = some (.lst (ps.map V.ref)) ∧ ps.length = ns.length + 1 ∧ ps[ns.length]? = some p ∧ ∀ i q, ps[i]? = some q → PlA C H q (ns.take i)
theorem WayAt.mono {C : Addr} {H H' : Hp} {l p : Addr} {ns : List Str} (h : WayAt C H l p ns) (s : Same H H') : WayAt C H' l p ns := by
  obtain ⟨ps, a, b, c, d⟩ := h
  exact ⟨ps, s _ _ a, b, c, fun i q e => (d i q e).mono s⟩
def spWay (C : Addr) : Sp := fun vs H Q _ => ∃ p ns, vs = [.ref p] ∧ PlA C H p ns ∧ Nms ns ∧ ∀ l H', Same H H' → H l = none → WayAt C H' l p ns → Q (.ref l) H'
section
variable {P : Program} {w : World} {K : PySem.W.Frag} {mg : Str → Option Value} {base : Heap} {a : Ad} {f : Addr} {fd : FuncData}
theorem scWay : FnScope ["_law_here", "_law_found"] ["_law_here"] (defScope sWay) := ⟨rfl, rfl, rfl, by decide +kernel, rfl, by decide +kernel, by decide +kernel⟩
theorem ok_way (W : Wo P w K mg base a) (F : Fun K "_law_way" "_law_way" sWay f fd) : FnOk P w K mg base CX0 7 f fd ["_law_here"] (spWay a.C) := by
  refine F.ok scWay (fun vs H Q E h => ?_) (fun cdv A outer s H vs Q E hr h => ?_)
  · obtain ⟨p, ns, rfl, _⟩ := h
    rfl
  · obtain ⟨p, ns, rfl, Pp, hn, q⟩ := h
    refine ⟨_, pss_cons (ps_set (i := 1) scWay.nd rfl (Or.inl rfl) (pe_lst (pa_cons (pv 0) pa_nil)))
      (pss_cons (ps_while PassesOwn.never (PW.pt (pw_and (pt_tru (tru_own W.mBool.at_ W.mBool.fn W.cBool (hr.mono (by decide)) pass0) (pe_ix ix_list (pv 1) pe_int (fun _ _ => rfl)))
          (pw_and1 (pt_cmpR op_lt (pe_callB call_len_seq (by rfl) W.T.b.len PySem.boot_len (pa_cons (pv 1) pa_nil)) pe_int (nomark _)))))
        (pss_one (ps_expr (pe_bm PySem.F.plainAttrs_list PySem.F.slot_list_insert PySem.F.type_list_insert mt_insert (pv 1) (pa_cons pe_int (pa_cons (pe_prop (pe_ix ix_list (pv 1) pe_int (fun _ _ => rfl)) W.U.cl W.pUp W.cUp hr W.bUp .nil pass0 rfl) pa_nil))))))
      (pss_one (ps_ret (pv 1)))), ?_⟩
    refine ⟨_, rfl, by show 1 ≤ sizeLine; decide, fun l hl => ?_⟩
    have sH : Same H (upd H l (.lst [V.ref p])) := fun b o hb => by
      rw [upd_ne (ne_of_none hb hl)]
      exact hb
    -- at measure m the list holds the places from the m-th on
    refine while_m (fun m σ H' => σ = [some (.ref p), some (.ref l)] ∧ m ≤ ns.length ∧ Same H H' ∧ ∃ ps : List Addr, H' l = some (.lst (ps.map V.ref)) ∧ ps.length + m = ns.length + 1 ∧ ps[ns.length - m]? = some p ∧ ∀ i q, ps[i]? = some q → PlA a.C H' q (ns.take (m + i)))
      ns.length ⟨rfl, Nat.le_refl _, sH, [p], upd_same, by simp; omega, by simp, fun i q hq => ?_⟩ ?_
    · match i, hq with
      | 0, hq =>
        have e : p = q := by simpa using hq
        subst e
        rw [Nat.add_zero, List.take_length]
        exact Pp.mono sH
      | i + 1, hq => simp at hq
    · rintro m σ H1 ⟨rfl, hm, s1, ps, h1, h2, h3, h4⟩
      obtain ⟨p0, hp0⟩ : ∃ p0, ps[0]? = some p0 := ⟨ps[0]'(by omega), List.getElem?_eq_getElem (by omega)⟩
      have P0 := h4 0 p0 hp0
      rw [Nat.add_zero] at P0
      obtain ⟨dx, t, g1, g2⟩ := id P0
      have ix0 : atI (ps.map V.ref) 0 = some (V.ref p0) := atI_nat (j := 0) (by rw [List.getElem?_map, hp0]; rfl)
      refine ⟨_, rfl, l, _, 0, _, rfl, rfl, SqL.of h1, ix0, p0, dx, _, rfl, g1, p0, _, rfl, P0, _, rfl, ?_⟩
      cases m with
      | zero =>
        rw [List.take_zero]
        refine iteF ?_
        refine ⟨_, rfl, q l H1 s1 hl ⟨ps, h1, by omega, by simpa using h3, fun i r hr => ?_⟩⟩
        have z := h4 i r hr
        rw [Nat.zero_add] at z
        exact z
      | succ m =>
        have e1 : (!(ns.take (m + 1)).isEmpty) = true := by
          cases ns with
          | nil => simp at hm
          | cons n r => rfl
        rw [e1]
        refine iteT ⟨_, rfl, l, _, rfl, .inl (SqL.of h1), _, _, rfl, rfl, _, rfl, ?_⟩
        have e2 : decide (((ps.map V.ref).length : Int) < 12) = true := by
          have := hn.1
          refine decide_eq_true ?_
          rw [List.length_map]
          omega
        rw [e2]
        refine ⟨fun σ H' => σ = [some (.ref p), some (.ref l)] ∧ m ≤ ns.length ∧ Same H H' ∧ ∃ ps : List Addr, H' l = some (.lst (ps.map V.ref)) ∧ ps.length + m = ns.length + 1 ∧ ps[ns.length - m]? = some p ∧ ∀ i q, ps[i]? = some q → PlA a.C H' q (ns.take (m + i)), fun σ' H' z => ⟨m, by omega, z⟩, ?_⟩
        refine ⟨_, rfl, .inl ⟨rfl, _, SqL.of h1⟩, _, rfl, l, _, 0, _, rfl, rfl, SqL.of h1, ix0, p0, dx, _, rfl, g1, p0, ns.take (m + 1), rfl, P0, hn.take _, fun e => ?_, fun _ r H2 s2 P2 => ?_⟩
        · rw [e] at e1
          cases e1
        · have h1' := s2 _ _ h1
          refine ⟨l, _, 0, V.ref r, rfl, rfl, h1', ?_, by decide, by decide, rfl, by omega, fun b o hb => ?_, r :: ps, ?_, ?_, ?_, fun i z hz => ?_⟩
          · rw [List.length_map]
            have := hn.1
            have : (100 : Nat) < sizeLine := by decide
            omega
          · rw [upd_ne (ne_of_none hb hl)]
            exact s2 _ _ (s1 _ _ hb)
          · rw [upd_same]
            rfl
          · rw [List.length_cons]
            omega
          · have e : ns.length - m = (ns.length - (m + 1)) + 1 := by omega
            rw [e, List.getElem?_cons_succ]
            exact h3
          · have up : ∀ (z : Addr) (ms : List Str), PlA a.C H2 z ms → PlA a.C (upd H2 l (.lst (((ps.map V.ref).take (0 : Int).toNat) ++ [V.ref r] ++ (ps.map V.ref).drop (0 : Int).toNat))) z ms := fun z ms hz => by
              obtain ⟨d1, t1, k1, k2⟩ := hz
              exact ⟨d1, t1, by rw [upd_ne (ne_of k1 h1' (by intro z; cases z))]; exact k1, by rw [upd_ne (ne_of k2 h1' (by intro z; cases z))]; exact k2⟩
            match i, hz with
            | 0, hz =>
              have e : r = z := by simpa using hz
              subst e
              have e3 : (ns.take (m + 1)).dropLast = ns.take (m + 0) := by
                rw [List.dropLast_eq_take, List.length_take, List.take_take]
                congr 1
                omega
              rw [e3] at P2
              exact up _ _ P2
            | i + 1, hz =>
              have z4 := (h4 i z (by simpa using hz)).mono s2
              have e3 : m + 1 + i = m + (i + 1) := by omega
              rw [e3] at z4
              exact up _ _ z4
end
end Pl

namespace Pl
open PySem L2 Own TL RZ
/-! ### the order -/
theorem lexS_pre : ∀ (xs : List Str) (y : Str) (ys : List Str), lexS xs (xs ++ y :: ys) = true
  | [], _, _ => rfl
  | x :: xs, y, ys => by
    show (if x = x then lexS xs (xs ++ y :: ys) else _) = true
    rw [if_pos rfl]
    exact lexS_pre xs y ys
theorem lexS_post : ∀ (xs ys : List Str), lexS (xs ++ ys) xs = false
  | [], [] => rfl
  | [], _ :: _ => rfl
  | x :: xs, ys => by
    show (if x = x then lexS (xs ++ ys) xs else _) = false
    rw [if_pos rfl]
    exact lexS_post xs ys
theorem lt_tri (a b : List Nat) (h : a ≠ b) : decide (a < b) = !decide (b < a) := by
  by_cases h1 : a < b
  · have h2 : ¬ b < a := fun q => absurd (List.lt_trans h1 q) (List.lt_irrefl a)
    rw [decide_eq_true h1, decide_eq_false h2]
    rfl
  · have h2 : b < a := by
      by_cases h2 : b < a
      · exact h2
      · exact absurd (List.le_antisymm (List.not_lt.mp h2) (List.not_lt.mp h1)) h
    rw [decide_eq_false h1, decide_eq_true h2]
    rfl
theorem lexS_tri : ∀ a b : List Str, a ≠ b → lexS a b = !lexS b a
  | [], [], h => absurd rfl h
  | [], _ :: _, _ => rfl
  | _ :: _, [], _ => rfl
  | x :: xs, y :: ys, h => by
    show (if x = y then lexS xs ys else decide (tl x < tl y)) = !(if y = x then lexS ys xs else decide (tl y < tl x))
    by_cases e : x = y
    · rw [if_pos e, if_pos e.symm]
      exact lexS_tri xs ys fun q => h (by rw [e, q])
    · rw [if_neg e, if_neg fun q => e q.symm]
      exact lt_tri _ _ fun q => e (ext_tl q)
theorem lexS_self : ∀ a : List Str, lexS a a = false
  | [] => rfl
  | x :: xs => by
    show (if x = x then lexS xs xs else _) = false
    rw [if_pos rfl]
    exact lexS_self xs
theorem take_split {ns : List Str} {d : Nat} (h : d < ns.length) : ns.take (d + 1) = ns.take d ++ [ns[d]] := by
  rw [List.take_add_one, List.getElem?_eq_getElem h]
  rfl
/-! ### the operators, by places -/
section
variable {X : Cx} {n : Nat} {E : XK}
theorem _root_.L2.OpR.imp' {f : Value → Value → Sem Value} {r r' : R2} (h : OpR X f r) (hi : ∀ x y H Q, r' x y H Q → r x y H Q) : OpR X f r' := fun pins s σ H x y v u Q I rx ry q => h pins s σ H x y v u Q I rx ry (hi x y H Q q)
theorem PlA.ins {C : Addr} {H : Hp} {p : Addr} {ns : List Str} (h : PlA C H p ns) : ∃ dx t, H p = some (.ins C dx (pf t)) := by
  obtain ⟨dx, t, a, _⟩ := h
  exact ⟨dx, t, a⟩
variable {P : Program} {w : World} {K : PySem.W.Frag} {mg : Str → Option Value} {base : Heap} {a : Ad}
def rCmp (C : Addr) (g : Bool → Bool) : R2 := fun x y H Q => ∃ p q ns ms, x = .ref p ∧ y = .ref q ∧ PlA C H p ns ∧ PlA C H q ms ∧ Nms ns ∧ Nms ms ∧ Q (.bl (g (decide (ns = ms)))) H
theorem op_eqP (W : Wo X.prog X.w X.K X.mg X.base a) (hr : Room 1 X.A) : OpR X (compareOp .Eq) (rCmp a.C id) := by
  refine (op_eqO W.mEq.at_ W.mEq.fn W.cEq hr pass0).imp' fun x y H Q h => ?_
  obtain ⟨p, q, ns, ms, rfl, rfl, P1, P2, N1, N2, k⟩ := h
  obtain ⟨dx, t, h1⟩ := P1.ins
  obtain ⟨dy, u, h2⟩ := P2.ins
  exact ⟨p, q, dx, _, dy, _, rfl, rfl, h1, h2, p, q, ns, ms, rfl, P1, P2, N1, N2, k⟩
theorem op_neP (W : Wo X.prog X.w X.K X.mg X.base a) (hr : Room 2 X.A) : OpR X (compareOp .NotEq) (rCmp a.C not) := by
  refine (op_neO W.ne W.sub W.mEq.at_ W.mEq.fn W.cEq hr pass0).imp' fun x y H Q h => ?_
  obtain ⟨p, q, ns, ms, rfl, rfl, P1, P2, N1, N2, k⟩ := h
  obtain ⟨dx, t, h1⟩ := P1.ins
  obtain ⟨dy, u, h2⟩ := P2.ins
  exact ⟨p, q, dx, _, dy, _, rfl, rfl, h1, h2, p, q, ns, ms, rfl, P1, P2, N1, N2, _, rfl, k⟩
def rInP (C : Addr) (g : Bool → Bool) : R2 := fun x y H Q => ∃ p q ns ms, x = .ref q ∧ y = .ref p ∧ PlA C H p ns ∧ PlA C H q ms ∧ Nms ns ∧ Nms ms ∧ ∀ H', Same H H' → Q (.bl (g (decide (ms.take ns.length = ns)))) H'
theorem op_inP (W : Wo X.prog X.w X.K X.mg X.base a) (hr : Room 4 X.A) : OpR X (compareOp .In) (rInP a.C id) := by
  refine (op_inO W.mCont.at_ W.mCont.fn W.cCont hr pass0).imp' fun x y H Q h => ?_
  obtain ⟨p, q, ns, ms, rfl, rfl, P1, P2, N1, N2, k⟩ := h
  obtain ⟨dx, t, h1⟩ := P1.ins
  exact ⟨p, dx, _, rfl, h1, p, q, ns, ms, rfl, P1, P2, N1, N2, fun H' s => ⟨_, rfl, k H' s⟩⟩
theorem op_notInP (W : Wo X.prog X.w X.K X.mg X.base a) (hr : Room 4 X.A) : OpR X (compareOp .NotIn) (rInP a.C not) := by
  refine (op_notInO W.mCont.at_ W.mCont.fn W.cCont hr pass0).imp' fun x y H Q h => ?_
  obtain ⟨p, q, ns, ms, rfl, rfl, P1, P2, N1, N2, k⟩ := h
  obtain ⟨dx, t, h1⟩ := P1.ins
  exact ⟨p, dx, _, rfl, h1, p, q, ns, ms, rfl, P1, P2, N1, N2, fun H' s => ⟨_, rfl, k H' s⟩⟩
theorem op_andP (W : Wo X.prog X.w X.K X.mg X.base a) (hr : Room 5 X.A) : OpR X (binaryOp .BitAnd) (fun x y H Q => ∃ p q ns ms, x = .ref p ∧ y = .ref q ∧ PlA a.C H p ns ∧ PlA a.C H q ms ∧ Nms ns ∧ Nms ms ∧ ∀ r H', Same H H' → PlA a.C H' r (ns.take (shr ns ms)) → Q (.ref r) H') := by
  refine (op_bin (op := .BitAnd) W.sf W.mAnd.at_ W.mAnd.fn W.cAnd hr pass0).imp' fun x y H Q h => ?_
  obtain ⟨p, q, ns, ms, rfl, rfl, P1, P2, N1, N2, k⟩ := h
  obtain ⟨dx, t, h1⟩ := P1.ins
  obtain ⟨dy, u, h2⟩ := P2.ins
  exact ⟨p, q, dx, _, dy, _, rfl, rfl, h1, h2, p, q, ns, ms, rfl, P1, P2, N1, N2, k⟩
theorem op_addP (W : Wo X.prog X.w X.K X.mg X.base a) (hr : Room 4 X.A) : OpR X (binaryOp .Add) (fun x y H Q => ∃ p ns s, x = .ref p ∧ y = .str s ∧ PlA a.C H p ns ∧ Nms (ns ++ [s]) ∧ ∀ r H', Same H H' → PlA a.C H' r (ns ++ [s]) → Q (.ref r) H') := by
  refine (op_addS W.sf W.mAdd.at_ W.mAdd.fn W.cAdd hr pass0).imp' fun x y H Q h => ?_
  obtain ⟨p, ns, s, rfl, rfl, P1, N1, k⟩ := h
  obtain ⟨dx, t, h1⟩ := P1.ins
  exact ⟨p, dx, _, s, rfl, rfl, h1, p, ns, s, rfl, P1, N1, k⟩
theorem call_lenP (W : Wo X.prog X.w X.K X.mg X.base a) (hr : Room 2 X.A) : CallR X (.builtin "len") (fun xs H Q => ∃ p ns, xs = [.ref p] ∧ PlA a.C H p ns ∧ Nms ns ∧ Q (.int (ns.length : Nat)) H) := by
  intro pins s σ H xs us Q I r h
  obtain ⟨p, ns, rfl, P1, N1, k⟩ := h
  obtain ⟨dx, t, h1⟩ := P1.ins
  have := N1.1
  exact call_lenO W.mLen.at_ W.mLen.fn W.cLen hr pass0 pins s σ H _ us Q I r ⟨p, dx, _, rfl, h1, p, ns, rfl, P1, _, rfl, ⟨by omega, by omega⟩, k⟩
end
end Pl

namespace Pl
open PySem L2 Own TL RZ
abbrev sWR : Stmt := top 18
def spWR (C : Addr) : Sp := fun vs H Q _ => ∃ p ns, vs = [.ref p] ∧ PlA C H p ns ∧ Nms ns ∧ ∀ H', Same H H' → Q (.bl true) H'
theorem atI_neg {α : Type} {xs : List α} {v : α} (h : xs[xs.length - 1]? = some v) : atI xs (-1) = some v := by
  have hl : 0 < xs.length := by
    rcases Nat.eq_zero_or_pos xs.length with z | z
    · rw [List.getElem?_eq_none (by omega)] at h
      cases h
    · exact z
  have e : ixN xs.length (-1) = some (xs.length - 1) := by
    unfold ixN
    rw [if_neg (by decide), if_pos (by omega)]
    congr 1
    omega
  unfold atI
  rw [e]
  exact h
section
variable {P : Program} {w : World} {K : PySem.W.Frag} {mg : Str → Option Value} {base : Heap} {a : Ad} {f : Addr} {fd : FuncData}
theorem nms0 : Nms [] := ⟨by simp, by simp⟩
theorem scWR : FnScope ["_law_here", "_law_way_here", "_law_deep", "_law_spot", "_law_above"] ["_law_here"] (defScope sWR) := ⟨rfl, rfl, rfl, by decide +kernel, rfl, by decide +kernel, by decide +kernel⟩
theorem ok_wr {fW : Addr} {fdW : FuncData} (W : Wo P w K mg base a) (F : Fun K "_law_way_right" "_law_way_right" sWR f fd) (GW : FnOk P w K mg base CX0 7 fW fdW ["_law_here"] (spWay a.C)) (mW : mg "_law_way" = some (.ref fW)) (kW : PySem.W.keepIn K (.ref fW) = true) (bW : Binds K fdW ["_law_here"] []) :
    FnOk P w K mg base CX0 8 f fd ["_law_here"] (spWR a.C) := by
  refine F.ok scWR (fun vs H Q E h => ?_) (fun cdv A outer s H vs Q E hr h => ?_)
  · obtain ⟨p, ns, rfl, _⟩ := h
    rfl
  · obtain ⟨p, ns, rfl, Pp, hn, q⟩ := h
    have hr2 : Room 2 _ := hr.mono (by decide)
    have hr4 : Room 4 _ := hr.mono (by decide)
    refine ⟨_, pss_cons (ps_set (i := 1) scWR.nd rfl (Or.inl rfl) (pe_call GW hr (by rfl) mW kW bW .nil pass0 (pa_cons (pv 0) pa_nil)))
      (pss_cons (ps_if (PW.pt (pw_or (pt_cmpR op_notN (pe_prop (pe_ix ix_list (pv 1) pe_int (fun _ _ => rfl)) W.U.cl W.pUp W.cUp (hr.mono (by decide)) W.bUp .nil pass0 rfl) pe_non (nomark _))
          (pw_or (pt_cmpR op_ne (pe_callB call_len_seq (by rfl) W.T.b.len PySem.boot_len (pa_cons (pv 1) pa_nil)) (pe_op op_add (pe_callB (call_lenP W hr2) (by rfl) W.T.b.len PySem.boot_len (pa_cons (pv 0) pa_nil)) pe_int) (nomark _))
          (pw_or1 (pt_cmpR (op_neP W hr2) (pe_ix ix_list (pv 1) pe_int (fun _ _ => rfl)) (pe_makeR0 W.mMk W.cMk (hr.mono (by decide)) (by rfl) W.U.mgC pass0) (nomark _)))))) (pss_one (ps_ret pe_bl)) pss_nil)
      (pss_cons (ps_for PassesOwn.never rfl (pi_enum (by rfl) W.T.b.enum (pa_cons (pv 1) pa_nil)) (pg_tup rfl (pgs_cons (pg_name (i := 2) scWR.nd rfl (Or.inl rfl)) (pgs_cons (pg_name (i := 3) scWR.nd rfl (Or.inl rfl)) pgs_nil)))
        (pss_cons (ps_if (PW.pt (pw_or (pt_cmpR (op_neP W hr2) (pv 3) (pe_meth (pv 0) W.U.cl W.mHead W.cHead hr4 W.bHead .nil pass0 (pa_cons (pv 2) pa_nil)) (nomark _))
            (pw_or1 (pt_cmpR (op_neP W hr2) (pe_methK1 (pv 0) W.U.cl W.mHead W.cHead hr4 W.kHead pass0 (pv 2)) (ClX.pe_cmeth (pe_glob (v := .ref a.C) (by rfl) W.U.mgC rfl) W.U.rd W.mRead W.cRead hr4 pass0 (pa_cons (pe_prop (pv 3) W.U.cl W.pText W.cText hr2 W.bText .nil pass0 rfl) pa_nil)) (nomark _))))) (pss_one (ps_ret pe_bl)) pss_nil)
        (pss_cons (ps_if (PW.pt (pw_or (pt_cmpR (op_notInP W hr4) (pv 0) (pv 3) rfl) (pw_or1 (pt_cmpR op_ne (pe_callB (call_lenP W hr2) (by rfl) W.T.b.len PySem.boot_len (pa_cons (pv 3) pa_nil)) (pv 2) (nomark _))))) (pss_one (ps_ret pe_bl)) pss_nil)
        (C8.pss_cut (ps_if (pt_cmpR op_gt (pv 2) pe_int (nomark _))
          (pss_cons (ps_set (i := 4) scWR.nd rfl (Or.inl rfl) (pe_ix ix_list (pv 1) (pe_op op_sub (pv 2) pe_int) (fun _ _ => rfl)))
          (pss_one (ps_if (PW.pt (pw_or (pt_not (pt_val (pe_meth (pv 4) W.U.cl W.mAhead W.cAhead (hr.mono (by decide)) W.bAhead .nil pass0 (pa_cons (pv 3) pa_nil))))
              (pw_or (pt_cmpR (op_neP W hr2) (pe_op (op_addP W hr4) (pv 4) (pe_ix ix_tup (pe_prop (pv 3) W.U.cl W.pNames W.cNames hr2 W.bNames .nil pass0 rfl) (pe_un un_neg pe_int) (fun _ _ => rfl))) (pv 3) (nomark _))
              (pw_or1 (pt_cmpR (op_notInP W hr4) (pv 3) (pv 4) rfl))))) (pss_one (ps_ret pe_bl)) pss_nil))) pss_nil)
        (pss_one (ps_if (PW.pt (pw_and (pt_cmpR op_lt (pv 2) (pe_callB (call_lenP W hr2) (by rfl) W.T.b.len PySem.boot_len (pa_cons (pv 0) pa_nil)) (nomark _))
            (pw_and1 (PW.pt (pw_or (pt_cmpR (op_inP W hr4) (pv 3) (pv 0) rfl) (pw_or1 (pt_val (pe_meth (pv 0) W.U.cl W.mAhead W.cAhead (hr.mono (by decide)) W.bAhead .nil pass0 (pa_cons (pv 3) pa_nil))))))))) (pss_one (ps_ret pe_bl)) pss_nil))))))
      (pss_one (ps_ret (pe_cmpR (op_eqP W (hr.mono (by decide))) (pe_ix ix_list (pv 1) (pe_un un_neg pe_int) (fun _ _ => rfl)) (pv 0) (nomark _)))))), ?_⟩
    refine ⟨_, rfl, p, ns, rfl, Pp, hn, fun l H1 s1 nl WA => ?_⟩
    obtain ⟨ps, h1, h2, h3, h4⟩ := id WA
    have hp1 := Pp.mono s1
    obtain ⟨p0, hp0⟩ : ∃ p0, ps[0]? = some p0 := ⟨ps[0]'(by omega), List.getElem?_eq_getElem (by omega)⟩
    have P0 : PlA a.C H1 p0 [] := h4 0 p0 hp0
    obtain ⟨dx0, t0, g0, _⟩ := id P0
    have ix0 : atI (ps.map V.ref) 0 = some (V.ref p0) := atI_nat (j := 0) (by rw [List.getElem?_map, hp0]; rfl)
    obtain ⟨dx, t, gp, _⟩ := id Pp
    refine ⟨_, rfl, l, _, 0, _, rfl, rfl, SqL.of h1, ix0, p0, dx0, _, rfl, g0, p0, [], rfl, P0, nms0, fun _ => ⟨rfl, _, rfl, ?_⟩, fun e => absurd rfl e⟩
    refine iteF ⟨_, rfl, l, _, rfl, .inl (SqL.of h1), _, rfl, p, ns, rfl, hp1, hn, _, _, rfl, rfl, rfl, _, rfl, ?_⟩
    have e1 : (!decide (V.int ((ps.map V.ref).length : Nat) = V.int ((ns.length : Nat) + 1))) = false := by
      rw [List.length_map, h2]
      simp
    rw [e1]
    refine iteF ⟨_, rfl, l, _, 0, _, rfl, rfl, SqL.of h1, ix0, ?_⟩
    intro pz dz hz1 hz2 hz3
    refine make_at (C := a.C) (ns := []) nms0 hz1 hz2 hz3 (fun H2 s2 Pz => ?_)
    refine ⟨p0, pz, [], [], rfl, rfl, P0.mono s2, Pz, nms0, nms0, _, rfl, ?_⟩
    refine iteF ?_
    have l2 := s2 _ _ h1
    have hn8 := hn.1
    refine ⟨_, rfl, l, _, rfl, SqL.of l2, for_it (walk_enum (xs := ps.map V.ref)) (fun i σ H' => Same H2 H' ∧ ∃ v2 v3 v4, σ = [some (.ref p), some (.ref l), v2, v3, v4]) ⟨Same.refl _, none, none, none, rfl⟩ (fun i σ H' _ e => SqL.of (e.1 _ _ l2)) (fun i x σ H3 H4 hi e y => ?_) (fun σ H3 e => ?_)⟩
    · obtain ⟨s3, v2, v3, v4, rfl⟩ := e
      obtain ⟨T, x, z, rfl, hT, rfl, hx, hz⟩ := y
      cases (Option.some.inj hx)
      replace hz : (ps.map V.ref)[i]? = some z := hz
      rw [List.getElem?_map] at hz
      obtain ⟨r0, hr0, rfl⟩ := Option.map_eq_some_iff.mp hz
      have hi2 : i ≤ ns.length := by
        rw [List.length_map] at hi
        omega
      have s4 : Same H2 (upd H3 T (.tup [.int (i : Nat), .ref r0])) := fun b o hb => by
        rw [upd_ne (ne_of_none (s3 _ _ hb) hT)]
        exact s3 _ _ hb
      generalize hH4 : upd H3 T (.tup [V.int (i : Nat), V.ref r0]) = H4 at *
      have hT4 : H4 T = some (.tup [.int (i : Nat), .ref r0]) := by
        rw [← hH4]
        exact upd_same
      have Pq : PlA a.C H4 r0 (ns.take i) := ((h4 i r0 hr0).mono s2).mono s4
      have Ph : PlA a.C H4 p ns := (hp1.mono s2).mono s4
      have Nq := hn.take i
      have el : (ns.take i).length = i := by rw [List.length_take]; omega
      refine ⟨T, _, rfl, SqT.of hT4, rfl, _, _, rfl, _, _, rfl, rfl, ?_⟩
      obtain ⟨d1, t1, k1⟩ := Ph.ins
      refine ⟨_, rfl, _, rfl, p, d1, _, rfl, k1, pf_no _ (by decide +kernel), _, rfl, p, ns, i, rfl, Ph, hn, by omega, by omega, fun r H5 s5 P5 => ?_⟩
      refine ⟨r0, r, ns.take i, ns.take i, rfl, rfl, Pq.mono s5, P5, Nq, Nq, _, rfl, ?_⟩
      rw [decide_eq_true rfl]
      refine iteF ?_
      obtain ⟨d2, t2, k2⟩ := (Ph.mono s5).ins
      refine ⟨_, rfl, p, d2, _, rfl, k2, pf_no _ (by decide +kernel), _, rfl, p, ns, i, rfl, Ph.mono s5, hn, by omega, by omega, fun r2 H6 s6 P6 => ?_⟩
      have Pq6 := (Pq.mono s5).mono s6
      obtain ⟨d3, t3, k3⟩ := Pq6.ins
      refine ⟨rfl, _, rfl, r0, d3, _, rfl, k3, r0, ns.take i, rfl, Pq6, Nq, ns.take i, rfl, Nq, fun r3 H7 s7 P7 => ?_⟩
      refine ⟨r2, r3, ns.take i, ns.take i, rfl, rfl, P6.mono s7, P7, Nq, Nq, _, rfl, ?_⟩
      rw [decide_eq_true rfl]
      refine iteF ?_
      have Pq7 := Pq6.mono s7
      have Ph7 := ((Ph.mono s5).mono s6).mono s7
      refine ⟨_, rfl, _, rfl, r0, p, ns.take i, ns, rfl, rfl, Pq7, Ph7, Nq, hn, fun H8 s8 => ⟨_, rfl, ?_⟩⟩
      rw [el, decide_eq_true rfl]
      refine iteF ?_
      have Pq8 := Pq7.mono s8
      have Ph8 := Ph7.mono s8
      refine ⟨_, rfl, r0, ns.take i, rfl, Pq8, Nq, _, rfl, rfl, _, rfl, ?_⟩
      rw [el, decide_eq_true rfl]
      refine iteF ?_
      have s28 : Same H2 H8 := s4.trans (s5.trans (s6.trans (s7.trans s8)))
      refine ⟨fun σ H' => Same H8 H' ∧ ∃ v4, σ = [some (.ref p), some (.ref l), some (.int (i : Nat)), some (.ref r0), v4], ?_, ?_⟩
      · refine ⟨_, rfl, _, _, rfl, rfl, _, rfl, ite2 (fun hi0 => ?_) (fun _ => ⟨Same.refl _, _, rfl⟩)⟩
        obtain ⟨d, rfl⟩ : ∃ d, i = d + 1 := ⟨i - 1, by
          have : (0 : Int) < (i : Nat) := by simpa using hi0
          omega⟩
        obtain ⟨r4, hr4⟩ : ∃ r4, ps[d]? = some r4 := ⟨ps[d]'(by omega), List.getElem?_eq_getElem (by omega)⟩
        have Pa8 : PlA a.C H8 r4 (ns.take d) := ((h4 d r4 hr4).mono s2).mono s28
        have Na := hn.take d
        have sp1 := take_split (ns := ns) (d := d) (by omega)
        obtain ⟨d4, t4, k4⟩ := Pa8.ins
        obtain ⟨d5, t5, k5, k5'⟩ := id Pq8
        have l8 := s28 _ _ l2
        refine ⟨_, rfl, _, rfl, _, _, rfl, rfl, l, _, _, V.ref r4, rfl, rfl, SqL.of l8, ?_, ?_⟩
        · refine at_of (j := d) (by omega) ?_
          rw [List.getElem?_map, hr4]
          rfl
        refine ⟨_, rfl, r4, d4, _, rfl, k4, pf_no _ (by decide +kernel), _, rfl, r4, r0, ns.take d, ns.take (d + 1), rfl, Pa8, Pq8, _, rfl, ?_⟩
        rw [show lexS (ns.take d) (ns.take (d + 1)) = true by rw [sp1]; exact lexS_pre _ _ _]
        refine iteF ?_
        refine ⟨_, rfl, _, rfl, r0, d5, _, rfl, k5, r0, d5, t5, rfl, k5, _, rfl, t5, _, _, V.str (ns[d]'(by omega)), rfl, rfl, SqT.of k5', ?_, ?_⟩
        · rw [sp1, List.map_append]
          exact atI_last _ _
        refine ⟨r4, ns.take d, ns[d]'(by omega), rfl, rfl, Pa8, by rw [← sp1]; exact Nq, fun r5 H9 s9 P9 => ?_⟩
        rw [← sp1] at P9
        refine ⟨_, rfl, r5, r0, _, _, rfl, rfl, P9, Pq8.mono s9, Nq, Nq, _, rfl, ?_⟩
        rw [decide_eq_true rfl]
        refine iteF ?_
        refine ⟨_, rfl, _, rfl, r4, r0, ns.take d, ns.take (d + 1), rfl, rfl, Pa8.mono s9, Pq8.mono s9, Na, Nq, fun H10 s10 => ⟨_, rfl, ?_⟩⟩
        have e5 : (ns.take (d + 1)).take (ns.take d).length = ns.take d := by
          rw [List.length_take, List.take_take]
          congr 1
          omega
        rw [e5, decide_eq_true rfl]
        exact iteF ⟨s9.trans s10, _, rfl⟩
      · rintro σ H9 ⟨s9, v4', rfl⟩
        have Ph9 := Ph8.mono s9
        have Pq9 := Pq8.mono s9
        have s29 : Same H2 H9 := s28.trans s9
        refine ⟨_, rfl, _, rfl, p, ns, rfl, Ph9, hn, _, _, rfl, rfl, _, rfl, ite2 (fun hlt => ?_) (fun _ => ?_)⟩
        · have hlt' : i < ns.length := by
            have : (i : Int) < (ns.length : Nat) := by simpa using hlt
            omega
          refine ⟨_, rfl, _, rfl, p, r0, ns, ns.take i, rfl, rfl, Ph9, Pq9, hn, Nq, fun H10 s10 => ⟨_, rfl, ?_⟩⟩
          have e6 : ¬ (ns.take i).take ns.length = ns := fun e => by
            have := congrArg List.length e
            rw [List.length_take, List.length_take] at this
            omega
          rw [decide_eq_false e6]
          refine iteF ?_
          obtain ⟨d6, t6, k6⟩ := (Ph9.mono s10).ins
          refine ⟨_, rfl, p, d6, _, rfl, k6, pf_no _ (by decide +kernel), _, rfl, p, r0, ns, ns.take i, rfl, Ph9.mono s10, Pq9.mono s10, _, rfl, ?_⟩
          have e7 : lexS ns (ns.take i) = false := by
            have := lexS_post (ns.take i) (ns.drop i)
            rw [List.take_append_drop] at this
            exact this
          rw [e7]
          exact iteF ⟨s29.trans s10, _, _, _, rfl⟩
        · exact ⟨s29, _, _, _, rfl⟩
    · obtain ⟨s3, v2, v3, v4, rfl⟩ := e
      have l3 := s3 _ _ l2
      refine ⟨_, rfl, _, rfl, l, _, _, V.ref p, rfl, rfl, SqL.of l3, atI_neg ?_, _, rfl, p, p, ns, ns, rfl, rfl, (hp1.mono s2).mono s3, (hp1.mono s2).mono s3, hn, hn, ?_⟩
      · rw [List.length_map, h2, List.getElem?_map]
        show (ps[ns.length]?).map V.ref = _
        rw [h3]
        rfl
      · rw [decide_eq_true rfl]
        exact q _ ((s1.trans s2).trans s3)
end
end Pl

namespace Pl
open PySem L2 Own TL RZ
/-! ### what two rows of names share -/
theorem shr_le1 : ∀ ns ms : List Str, shr ns ms ≤ ns.length
  | [], ms => by cases ms <;> exact Nat.le_refl _
  | _ :: _, [] => Nat.zero_le _
  | n :: ns, m :: ms => by
    show (if n = m then shr ns ms + 1 else 0) ≤ ns.length + 1
    have := shr_le1 ns ms
    split <;> omega
theorem shr_comm : ∀ ns ms : List Str, shr ns ms = shr ms ns
  | [], [] => rfl
  | [], _ :: _ => rfl
  | _ :: _, [] => rfl
  | n :: ns, m :: ms => by
    show (if n = m then shr ns ms + 1 else 0) = (if m = n then shr ms ns + 1 else 0)
    rw [shr_comm ns ms]
    by_cases e : n = m
    · rw [if_pos e, if_pos e.symm]
    · rw [if_neg e, if_neg fun q => e q.symm]
theorem shr_le2 (ns ms : List Str) : shr ns ms ≤ ms.length := by
  rw [shr_comm]
  exact shr_le1 ms ns
theorem shr_take : ∀ ns ms : List Str, ns.take (shr ns ms) = ms.take (shr ns ms)
  | [], ms => by
    have : shr [] ms = 0 := by cases ms <;> rfl
    rw [this]
    rfl
  | _ :: _, [] => rfl
  | n :: ns, m :: ms => by
    have h : shr (n :: ns) (m :: ms) = if n = m then shr ns ms + 1 else 0 := rfl
    rw [h]
    by_cases e : n = m
    · rw [if_pos e, List.take_succ_cons, List.take_succ_cons, shr_take ns ms, e]
    · rw [if_neg e]
      rfl
theorem shr_max : ∀ (ns ms : List Str) (j : Nat), j ≤ ns.length → j ≤ ms.length → ns.take j = ms.take j → j ≤ shr ns ms
  | _, _, 0, _, _, _ => Nat.zero_le _
  | [], _, j + 1, h, _, _ => by simp at h
  | _ :: _, [], j + 1, _, h, _ => by simp at h
  | n :: ns, m :: ms, j + 1, h1, h2, h3 => by
    simp only [List.take_succ_cons, List.cons.injEq] at h3
    show j + 1 ≤ if n = m then shr ns ms + 1 else 0
    rw [if_pos h3.1]
    have := shr_max ns ms j (by simpa using h1) (by simpa using h2) h3.2
    omega
/-- the names of the places on the way -/
def pres (ms : List Str) : List (List Str) := (List.range (ms.length + 1)).map fun j => ms.take j
theorem pres_len (ms : List Str) : (pres ms).length = ms.length + 1 := by simp [pres]
theorem pres_at {ms : List Str} {i : Nat} (h : i ≤ ms.length) : (pres ms)[i]? = some (ms.take i) := by
  unfold pres
  rw [List.getElem?_map, List.getElem?_range (by omega)]
  rfl
theorem mem_pres {ns ms : List Str} {j : Nat} (hj : j ≤ ns.length) : ns.take j ∈ pres ms ↔ j ≤ shr ns ms := by
  constructor
  · intro h
    obtain ⟨i, hi, e⟩ := List.mem_map.mp h
    have hi' : i < ms.length + 1 := List.mem_range.mp hi
    have el := congrArg List.length e
    simp only [List.length_take] at el
    have : i = j := by omega
    subst this
    exact shr_max ns ms i hj (by omega) e.symm
  · intro h
    refine List.mem_map.mpr ⟨j, List.mem_range.mpr ?_, ?_⟩
    · have := shr_le2 ns ms
      omega
    · have e := shr_take ns ms
      have e2 : (ns.take (shr ns ms)).take j = (ms.take (shr ns ms)).take j := by rw [e]
      rw [List.take_take, List.take_take, Nat.min_eq_left h] at e2
      exact e2.symm
theorem met_left (ns ms : List Str) : decide (ns.take ms.length = ms) = decide (ns.take (shr ns ms) = ms) := by
  have : (ns.take ms.length = ms) ↔ (ns.take (shr ns ms) = ms) := by
    constructor
    · intro h
      have el := congrArg List.length h
      rw [List.length_take] at el
      have h1 : ms.length ≤ shr ns ms := shr_max ns ms _ (by omega) (Nat.le_refl _) (by rw [h, List.take_length])
      have h2 := shr_le2 ns ms
      have : shr ns ms = ms.length := by omega
      rw [this]
      exact h
    · intro h
      have el := congrArg List.length h
      rw [List.length_take] at el
      have h2 := shr_le1 ns ms
      have : shr ns ms = ms.length := by omega
      rw [← this]
      exact h
  exact decide_eq_decide.mpr this
theorem met_right_ (ns ms : List Str) : decide (ms.take ns.length = ns) = decide (ns.take (shr ns ms) = ns) := by
  rw [met_left ms ns, shr_comm ms ns, shr_take ns ms]
section
variable {X : Cx} {a : Ad}
/-- x in l, l a list of places -/
def rInPs (C : Addr) : R2 := fun x y H Q => ∃ (l q : Addr) (ps : List Addr) (nss : List (List Str)) (ms : List Str), x = .ref q ∧ y = .ref l ∧ H l = some (.lst (ps.map V.ref)) ∧ ps.length = nss.length ∧
  (∀ (i : Nat) (p : Addr), ps[i]? = some p → ∃ ns : List Str, nss[i]? = some ns ∧ PlA C H p ns ∧ Nms ns) ∧ PlA C H q ms ∧ Nms ms ∧ Q (.bl (decide (ms ∈ nss))) H
theorem PlA.uniq {C : Addr} {H : Hp} {p : Addr} {ns ms : List Str} (h : PlA C H p ns) (g : PlA C H p ms) : ns = ms := by
  obtain ⟨dx, t, a1, b1⟩ := h
  obtain ⟨dy, u, a2, b2⟩ := g
  rw [a1] at a2
  injection a2 with a2
  injection a2 with _ _ a2
  have e : t = u := by
    have := congrArg (fun l : List (Str × V) => l.lookup ("_names" : Str)) a2
    simp only [pf_at] at this
    injection this with this
    injection this
  subst e
  rw [b1] at b2
  injection b2 with b2
  injection b2 with b2
  exact (List.map_inj_right (fun x y h => by injection h)).mp b2
theorem op_inPs (W : Wo X.prog X.w X.K X.mg X.base a) (hr : Room 2 X.A) : OpR X (compareOp .In) (rInPs a.C) := by
  refine op_inL.imp' fun x y H Q h => ?_
  obtain ⟨l, q, ps, nss, ms, rfl, rfl, hl, hlen, hat, Pq, Nq, k⟩ := h
  refine ⟨l, ps.map V.ref, fun i => decide (nss[i]? = some ms), fun _ H' => H' = H, rfl, rfl, fun i H' e => by rw [e]; exact hl, fun i z H' hz e => ?_, fun i H' hi hres e => ?_, fun hno H' e => ?_⟩
  · subst e
    rw [List.getElem?_map] at hz
    obtain ⟨p, hp, rfl⟩ := Option.map_eq_some_iff.mp hz
    obtain ⟨ns, hns, Pp, Np⟩ := hat i p hp
    obtain ⟨dx, t, h1⟩ := Pp.ins
    obtain ⟨dy, u, h2⟩ := Pq.ins
    refine eqT_own W.mEq.at_ W.mEq.fn W.cEq hr pass0 h1 h2 (fun e => ?_) ⟨p, q, ns, ms, rfl, Pp, Pq, Np, Nq, _, rfl, ?_⟩
    · subst e
      rw [Pp.uniq Pq] at hns
      exact ⟨by show true = decide (nss[i]? = some ms); rw [hns]; simp, rfl⟩
    · refine ⟨?_, rfl⟩
      show decide (ns = ms) = decide (nss[i]? = some ms)
      rw [hns]
      simp
  · subst e
    have hm : ms ∈ nss := List.mem_of_getElem? (of_decide_eq_true hres)
    rw [decide_eq_true hm] at k
    exact k
  · subst e
    have hm : ¬ ms ∈ nss := fun hm => by
      obtain ⟨i, hi, e⟩ := List.getElem_of_mem hm
      have this : decide (nss[i]? = some ms) = false := hno i (by rw [List.length_map]; omega)
      rw [List.getElem?_eq_getElem hi, e] at this
      simp at this
    rw [decide_eq_false hm] at k
    exact k
end
end Pl

namespace Pl
open PySem L2 Own TL RZ
abbrev sMR : Stmt := top 19
def spMR (C : Addr) : Sp := fun vs H Q _ => ∃ p q ns ms, vs = [.ref p, .ref q] ∧ PlA C H p ns ∧ PlA C H q ms ∧ Nms ns ∧ Nms ms ∧ ∀ H', Same H H' → Q (.bl true) H'
section
variable {P : Program} {w : World} {K : PySem.W.Frag} {mg : Str → Option Value} {base : Heap} {a : Ad} {f : Addr} {fd : FuncData}
theorem scMR : FnScope ["_law_one", "_law_other", "_law_met", "_law_mine", "_law_yours", "_law_both", "_law_spot"] ["_law_one", "_law_other"] (defScope sMR) := ⟨rfl, rfl, rfl, by decide +kernel, rfl, by decide +kernel, by decide +kernel⟩
theorem ok_mr {fW : Addr} {fdW : FuncData} (W : Wo P w K mg base a) (F : Fun K "_law_met_right" "_law_met_right" sMR f fd) (GW : FnOk P w K mg base CX0 7 fW fdW ["_law_here"] (spWay a.C)) (mW : mg "_law_way" = some (.ref fW)) (kW : PySem.W.keepIn K (.ref fW) = true) (bW : Binds K fdW ["_law_here"] []) :
    FnOk P w K mg base CX0 8 f fd ["_law_one", "_law_other"] (spMR a.C) := by
  refine F.ok scMR (fun vs H Q E h => ?_) (fun cdv A outer s H vs Q E hr h => ?_)
  · obtain ⟨p, q, ns, ms, rfl, _⟩ := h
    rfl
  · obtain ⟨p, q, ns, ms, rfl, Pp, Pq, Np, Nq, k⟩ := h
    have hr2 : Room 2 _ := hr.mono (by decide)
    have hr1 : Room 1 _ := hr.mono (by decide)
    have hr4 : Room 4 _ := hr.mono (by decide)
    have hr5 : Room 5 _ := hr.mono (by decide)
    have hr3 : Room 3 _ := hr.mono (by decide)
    refine ⟨_, pss_cons (ps_set (i := 2) scMR.nd rfl (Or.inl rfl) (pe_op (op_andP W hr5) (pv 0) (pv 1)))
      (pss_cons (ps_if (PW.pt (pw_or (pt_cmpR (op_neP W hr2) (pv 2) (pe_op (op_andP W hr5) (pv 1) (pv 0)) (nomark _)) (pw_or (pt_cmpR (op_notInP W hr4) (pv 0) (pv 2) rfl) (pw_or1 (pt_cmpR (op_notInP W hr4) (pv 1) (pv 2) rfl))))) (pss_one (ps_ret pe_bl)) pss_nil)
      (pss_cons (ps_asg (pe_tup (pa_cons (pe_call GW hr (by rfl) mW kW bW .nil pass0 (pa_cons (pv 0) pa_nil)) (pa_cons (pe_call GW hr (by rfl) mW kW bW .nil pass0 (pa_cons (pv 1) pa_nil)) pa_nil)))
        (pg_tup rfl (pgs_cons (pg_name (i := 3) scMR.nd rfl (Or.inl rfl)) (pgs_cons (pg_name (i := 4) scMR.nd rfl (Or.inr rfl)) pgs_nil))))
      (pss_cons (ps_setLc (i := 5) (own := [("_law_spot", 6)]) (g := gName 6) (tt := tTest (tOp (rInPs a.C) (tVar 6) (tVar 4))) rfl scMR.nd rfl rfl (sw_true rfl rfl rfl (by decide +kernel)) (pi_list (pv 3))
        (blkOk_by (own := [("_law_spot", 6)]) (N := ["_law_one", "_law_other", "_law_met", "_law_mine", "_law_yours", "_law_both", "_law_spot"]) (sc := defScope sMR) (by decide +kernel)) (fun _ _ _ _ _ => pg_name (i := 6) scMR.nd rfl (Or.inl rfl))
        (fun _ _ _ _ _ => pts_one (pt_cmpR (op_inPs W hr2) (pv 6) (pv 4) rfl)) (fun _ _ _ _ _ => pv 6))
      (pss_cons (ps_if (PW.pt (pw_or (pt_cmpR (op_neP W hr2) (pe_ix ix_list (pv 5) (pe_un un_neg pe_int) (fun _ _ => rfl)) (pv 2) (nomark _))
          (pw_or1 (pt_cmpR op_ne (pe_callB call_len_seq (by rfl) W.T.b.len PySem.boot_len (pa_cons (pv 5) pa_nil)) (pe_op op_add (pe_callB (call_lenP W hr2) (by rfl) W.T.b.len PySem.boot_len (pa_cons (pv 2) pa_nil)) pe_int) (nomark _))))) (pss_one (ps_ret pe_bl)) pss_nil)
      (pss_cons (ps_if (PW.pt (pw_or (pt_cmpR op_ne (pe_cmpR (op_inP W hr4) (pv 0) (pv 1) rfl) (pe_cmpR (op_eqP W hr1) (pv 2) (pv 1) (nomark _)) (nomark _))
          (pw_or1 (pt_cmpR op_ne (pe_cmpR (op_inP W hr4) (pv 1) (pv 0) rfl) (pe_cmpR (op_eqP W hr1) (pv 2) (pv 0) (nomark _)) (nomark _))))) (pss_one (ps_ret pe_bl)) pss_nil)
      (pss_one (ps_ret (pe_cmpR op_eq (pe_bm PySem.F.plainAttrs_list PySem.F.slot_list_count PySem.F.type_list_count mt_countB (pe_lst (pa_cons (pe_meth (pv 0) W.U.cl W.mAhead W.cAhead hr3 W.bAhead .nil pass0 (pa_cons (pv 1) pa_nil))
          (pa_cons (pe_cmpR (op_eqP W hr1) (pv 0) (pv 1) (nomark _)) (pa_cons (pe_meth (pv 1) W.U.cl W.mAhead W.cAhead hr3 W.bAhead .nil pass0 (pa_cons (pv 0) pa_nil)) pa_nil)))) (pa_cons pe_bl pa_nil)) pe_int (nomark _))))))))), ?_⟩
    have c1 := shr_le1 ns ms
    have c2 := shr_le2 ns ms
    have cT := shr_take ns ms
    generalize hc : shr ns ms = c at *
    have eL : (ns.take c).length = c := by rw [List.length_take]; omega
    have NM := Np.take c
    have eM : ms.take (shr ms ns) = ns.take c := by rw [shr_comm, hc, cT]
    have n8 := Np.1
    have m8 := Nq.1
    refine ⟨_, rfl, _, rfl, p, q, ns, ms, rfl, rfl, Pp, Pq, Np, Nq, fun m H1 s1 Pm => ?_⟩
    rw [hc] at Pm
    refine ⟨_, rfl, _, rfl, _, rfl, q, p, ms, ns, rfl, rfl, Pq.mono s1, Pp.mono s1, Nq, Np, fun m2 H2 s2 Pm2 => ?_⟩
    rw [eM] at Pm2
    have s12 := s1.trans s2
    have Pm_2 := Pm.mono s2
    refine ⟨m, m2, ns.take c, ns.take c, rfl, rfl, Pm_2, Pm2, NM, NM, _, rfl, ?_⟩
    rw [decide_eq_true rfl]
    refine iteF ⟨_, rfl, _, rfl, m, p, ns.take c, ns, rfl, rfl, Pm_2, Pp.mono s12, NM, Np, fun H3 s3 => ⟨_, rfl, ?_⟩⟩
    rw [eL, decide_eq_true rfl]
    have s13 := s12.trans s3
    refine iteF ⟨_, rfl, _, rfl, m, q, ns.take c, ms, rfl, rfl, Pm_2.mono s3, Pq.mono s13, NM, Nq, fun H4 s4 => ⟨_, rfl, ?_⟩⟩
    rw [eL, decide_eq_true cT.symm]
    refine iteF ?_
    have s14 := s13.trans s4
    have Pm4 := (Pm_2.mono s3).mono s4
    refine ⟨_, rfl, p, ns, rfl, Pp.mono s14, Np, fun l1 H5 s5 n1 W1 => ?_⟩
    have s15 := s14.trans s5
    refine ⟨_, rfl, q, ms, rfl, Pq.mono s15, Nq, fun l2 H6 s6 n2 W2 => ?_⟩
    refine ⟨by show 2 ≤ sizeLine; decide, fun T hT => ?_⟩
    have s7 : Same H6 (upd H6 T (.tup [V.ref l1, V.ref l2])) := fun b o hb => by
      rw [upd_ne (ne_of_none hb hT)]
      exact hb
    refine ⟨T, _, rfl, SqT.of upd_same, rfl, _, _, rfl, _, _, rfl, rfl, ?_⟩
    generalize hH7 : upd H6 T (.tup [V.ref l1, V.ref l2]) = H7 at *
    have W1' := (W1.mono s6).mono s7
    have W2' := W2.mono s7
    obtain ⟨ps1, a1, a2, a3, a4⟩ := W1'
    obtain ⟨ps2, b1, b2, b3, b4⟩ := W2'
    have s17 := (s15.trans s6).trans s7
    have Pm7 := ((Pm4.mono s5).mono s6).mono s7
    refine ⟨_, rfl, l1, rfl, ⟨_, SqL.of a1⟩, fun D hD => lc_it (tt := tTest (tOp (rInPs a.C) (tVar 6) (tVar 4))) (walk_list (K := K) (a := l1) (xs := ps1.map V.ref)) (fun i H' => Same H7 H' ∧ H' D = some (.lst ((ps1.take (min i (c + 1))).map V.ref)))
      ⟨fun b o hb => by
        rw [upd_ne (ne_of_none hb hD)]
        exact hb, by rw [upd_same, Nat.zero_min]; rfl⟩ (fun i H' _ e => SqL.of (e.1 _ _ a1)) (fun i x H8 H9 hi e y => ?_) (fun H8 e => ?_)⟩
    · obtain ⟨s8, e8⟩ := e
      obtain ⟨rfl, hx⟩ := y
      rw [List.getElem?_map] at hx
      obtain ⟨z, hz, rfl⟩ := Option.map_eq_some_iff.mp hx
      have hi2 : i ≤ ns.length := by
        rw [List.length_map] at hi
        omega
      refine ⟨rfl, _, rfl, _, rfl, l2, z, ps2, pres ms, ns.take i, rfl, rfl, s8 _ _ b1, by rw [pres_len, b2], fun j r hr => ⟨ms.take j, pres_at ?_, (b4 j r hr).mono s8, Nq.take j⟩, (a4 i z hz).mono s8, Np.take i, _, rfl, ite2 (fun h => ?_) (fun h => ?_)⟩
      · have := (List.getElem?_eq_some_iff.mp hr).1
        omega
      · have h' : i ≤ c := by
          have := (mem_pres (ms := ms) hi2).mp (of_decide_eq_true h)
          rw [hc] at this
          exact this
        refine ⟨_, rfl, _, e8, ?_, fun b o hb => ?_, ?_⟩
        · rw [List.length_map, List.length_take]
          have : (1000 : Nat) ≤ sizeLine := by decide
          omega
        · rw [upd_ne (ne_of_none hb hD)]
          exact s8 _ _ hb
        · rw [upd_same, Nat.min_eq_left (show i ≤ c + 1 by omega), Nat.min_eq_left (show i + 1 ≤ c + 1 by omega), List.take_add_one, hz, List.map_append]
          rfl
      · have h' : ¬ i ≤ c := fun q => h (decide_eq_true ((mem_pres (ms := ms) hi2).mpr (by rw [hc]; exact q)))
        refine ⟨s8, ?_⟩
        rw [Nat.min_eq_right (show c + 1 ≤ i + 1 by omega)]
        rw [Nat.min_eq_right (show c + 1 ≤ i by omega)] at e8
        exact e8
    · obtain ⟨s8, e8⟩ := e
      have e9 : H8 D = some (.lst ((ps1.take (c + 1)).map V.ref)) := by
        rw [e8, List.length_map, Nat.min_eq_right (by omega)]
      obtain ⟨z, hz⟩ : ∃ z, ps1[c]? = some z := ⟨ps1[c]'(by omega), List.getElem?_eq_getElem (by omega)⟩
      have Pz := (a4 c z hz).mono s8
      have Pm8 := Pm7.mono s8
      have s18 := s17.trans s8
      have l9 : ((ps1.take (c + 1)).map V.ref).length = c + 1 := by rw [List.length_map, List.length_take]; omega
      refine ⟨_, rfl, _, rfl, D, _, _, V.ref z, rfl, rfl, SqL.of e9, atI_neg ?_, _, rfl, z, m, ns.take c, ns.take c, rfl, rfl, Pz, Pm8, NM, NM, _, rfl, ?_⟩
      · rw [l9, List.getElem?_map]
        show ((ps1.take (c + 1))[c]?).map V.ref = _
        rw [List.getElem?_take_of_lt (by omega), hz]
        rfl
      rw [decide_eq_true rfl]
      refine iteF ⟨_, rfl, D, _, rfl, .inl (SqL.of e9), _, rfl, m, ns.take c, rfl, Pm8, NM, _, _, rfl, rfl, rfl, _, rfl, ?_⟩
      rw [l9, eL]
      have e10 : (!decide (V.int ((c + 1 : Nat) : Int) = V.int ((c : Int) + 1))) = false := by simp
      rw [e10]
      refine iteF ?_
      refine ⟨_, rfl, _, rfl, q, p, ms, ns, rfl, rfl, Pq.mono s18, Pp.mono s18, Nq, Np, fun H9 s9 => ?_⟩
      have s19 := s18.trans s9
      have Pm9 := Pm8.mono s9
      refine ⟨_, rfl, _, rfl, m, q, ns.take c, ms, rfl, rfl, Pm9, Pq.mono s19, NM, Nq, rfl, _, rfl, ?_⟩
      have f1 := met_left ns ms
      rw [hc] at f1
      rw [f1]
      have e11 : ∀ b : Bool, (!decide (V.bl (id b) = V.bl (id b))) = false := by simp
      rw [e11]
      refine iteF ?_
      refine ⟨_, rfl, _, rfl, p, q, ns, ms, rfl, rfl, Pp.mono s19, Pq.mono s19, Np, Nq, fun H10 s10 => ?_⟩
      have s110 := s19.trans s10
      have Pm10 := Pm9.mono s10
      refine ⟨_, rfl, _, rfl, m, p, ns.take c, ns, rfl, rfl, Pm10, Pp.mono s110, NM, Np, rfl, _, rfl, ?_⟩
      have f2 := met_right_ ns ms
      rw [hc] at f2
      rw [f2, e11]
      refine iteF ?_
      have Pp10 := Pp.mono s110
      have Pq10 := Pq.mono s110
      obtain ⟨d1, t1, k1⟩ := Pp10.ins
      obtain ⟨d2, t2, k2⟩ := Pq10.ins
      refine ⟨_, rfl, p, d1, _, rfl, k1, pf_no _ (by decide +kernel), _, rfl, p, q, ns, ms, rfl, Pp10, Pq10, ?_⟩
      refine ⟨_, rfl, _, rfl, p, q, ns, ms, rfl, rfl, Pp10, Pq10, Np, Nq, ?_⟩
      refine ⟨_, rfl, q, d2, _, rfl, k2, pf_no _ (by decide +kernel), _, rfl, q, p, ms, ns, rfl, Pq10, Pp10, ?_⟩
      refine ⟨by show 3 ≤ sizeLine; decide, fun L hL => ?_⟩
      refine ⟨.inl ⟨rfl, _, SqL.of upd_same⟩, L, [lexS ns ms, decide (ns = ms), lexS ms ns], true, rfl, rfl, SqL.of upd_same, rfl, ?_⟩
      have e12 : [lexS ns ms, decide (ns = ms), lexS ms ns].count true = 1 := by
        by_cases e : ns = ms
        · subst e
          rw [lexS_self, decide_eq_true rfl]
          rfl
        · rw [decide_eq_false e, lexS_tri ns ms e]
          cases lexS ms ns <;> rfl
      rw [e12]
      exact k _ (s110.trans fun b o hb => by
        rw [upd_ne (ne_of_none hb hL)]
        exact hb)
end
end Pl

namespace Pl
open PySem L2 Own TL RZ
abbrev sLaw : Stmt := top 20
def mt (ns ms : List Str) : List Str := ns.take (shr ns ms)
theorem mt_cons (n m : Str) (ns ms : List Str) : mt (n :: ns) (m :: ms) = if n = m then n :: mt ns ms else [] := by
  show (n :: ns).take (if n = m then shr ns ms + 1 else 0) = _
  by_cases e : n = m
  · rw [if_pos e, if_pos e]
    rfl
  · rw [if_neg e, if_neg e]
    rfl
theorem mt_nil1 (ms : List Str) : mt [] ms = [] := by cases ms <;> rfl
theorem mt_nil2 (ns : List Str) : mt ns [] = [] := by cases ns <;> rfl
theorem mt_assoc : ∀ a b c : List Str, mt (mt a b) c = mt a (mt b c)
  | [], b, c => by rw [mt_nil1, mt_nil1, mt_nil1]
  | a :: as, [], c => by rw [mt_nil2, mt_nil1, mt_nil2]
  | a :: as, b :: bs, [] => by rw [mt_nil2, mt_nil2, mt_nil2]
  | a :: as, b :: bs, c :: cs => by
    rw [mt_cons, mt_cons]
    by_cases e : a = b
    · subst e
      rw [if_pos rfl, mt_cons]
      by_cases e2 : a = c
      · rw [if_pos e2, if_pos e2, mt_cons, if_pos rfl, mt_assoc as bs cs]
      · rw [if_neg e2, if_neg e2, mt_nil2]
    · rw [if_neg e, mt_nil1]
      by_cases e2 : b = c
      · rw [if_pos e2, mt_cons, if_neg e]
      · rw [if_neg e2, mt_nil2]
theorem mt_q : ∀ (ns ms : List Str) (q : Str), q ∉ ms → mt (ns ++ [q]) ms = mt ns ms
  | [], [], q, _ => by rw [mt_nil2, mt_nil2]
  | [], m :: ms, q, h => by
    have : ¬ q = m := fun e => h (by rw [e]; exact List.mem_cons_self)
    rw [List.nil_append, mt_cons, if_neg this, mt_nil1]
  | n :: ns, [], q, _ => by rw [mt_nil2, mt_nil2]
  | n :: ns, m :: ms, q, h => by
    rw [List.cons_append, mt_cons, mt_cons, mt_q ns ms q fun e => h (List.mem_cons_of_mem _ e)]
theorem mt_take (ns : List Str) (k : Nat) (h : k ≤ ns.length) : mt ns (ns.take k) = ns.take k := by
  have z := met_left ns (ns.take k)
  rw [decide_eq_true (show ns.take (ns.take k).length = ns.take k by rw [List.length_take]; congr 1; omega)] at z
  exact of_decide_eq_true z.symm
theorem Nms.mt {ns ms : List Str} (h : Nms ns) : Nms (mt ns ms) := h.take _
def spLaw (K : PySem.W.Frag) : Sp := fun vs H Q _ => ∃ (a : Addr) (ns : List Int), vs = [.ref a] ∧ SqL K H a (ns.map V.int) ∧ ns.length ≤ 63 ∧ ∀ H', Q (.bl true) H'
section
variable {P : Program} {w : World} {K : PySem.W.Frag} {mg : Str → Option Value} {base : Heap} {a : Ad} {f : Addr} {fd : FuncData}
theorem scLaw : FnScope ["_law_script", "_law_pen_here", "_law_turn", "_law_pool", "_law_one", "_law_other", "_law_more", "_law_short"] ["_law_script"] (defScope sLaw) := ⟨rfl, rfl, rfl, by decide +kernel, rfl, by decide +kernel, by decide +kernel⟩
theorem ok_law {fP fR fM : Addr} {fdP fdR fdM : FuncData} (W : Wo P w K mg base a) (F : Fun K "law" "law" sLaw f fd)
    (GP : FnOk P w K mg base CX0 5 fP fdP ["_law_pen_here", "_law_pool"] (spLPlace a.C)) (mP : mg "_law_place" = some (.ref fP)) (kP : PySem.W.keepIn K (.ref fP) = true) (bP : Binds K fdP ["_law_pen_here", "_law_pool"] [])
    (GR : FnOk P w K mg base CX0 8 fR fdR ["_law_here"] (spWR a.C)) (mR : mg "_law_way_right" = some (.ref fR)) (kR : PySem.W.keepIn K (.ref fR) = true) (bR : Binds K fdR ["_law_here"] [])
    (GM : FnOk P w K mg base CX0 8 fM fdM ["_law_one", "_law_other"] (spMR a.C)) (mM : mg "_law_met_right" = some (.ref fM)) (kM : PySem.W.keepIn K (.ref fM) = true) (bM : Binds K fdM ["_law_one", "_law_other"] []) :
    FnOk P w K mg base CX0 9 f fd ["_law_script"] (spLaw K) := by
  refine F.ok scLaw (fun vs H Q E h => ?_) (fun cdv A outer s H vs Q E hr h => ?_)
  · obtain ⟨a, ns, rfl, _⟩ := h
    rfl
  · obtain ⟨ad, ns0, rfl, hS, hlen, k⟩ := h
    have hr1 : Room 1 _ := hr.mono (by decide)
    have hr2 : Room 2 _ := hr.mono (by decide)
    have hr3 : Room 3 _ := hr.mono (by decide)
    have hr4 : Room 4 _ := hr.mono (by decide)
    have hr5 : Room 5 _ := hr.mono (by decide)
    refine ⟨_, pss_cons (ps_set (i := 1) scLaw.nd rfl (Or.inl rfl) (pe_call W.cPen hr1 (by rfl) W.mPen W.kPen W.bPen .nil pass0 (pa_cons (pv 0) pa_nil)))
      (pss_cons (ps_for PassesOwn.never rfl (pi_range1 (by rfl) W.T.b.range (pa_cons pe_int pa_nil)) (pg_name (i := 2) scLaw.nd rfl (Or.inl rfl))
        (pss_cons (ps_set (i := 3) scLaw.nd rfl (Or.inl rfl) (pe_call W.cPick hr2 (by rfl) W.mPick W.kPick W.bPick .nil pass0 (pa_cons (pv 1) (pa_cons (pe_lst (pa_cons (pe_lst (pa_cons pe_str (pa_cons pe_str pa_nil)))
            (pa_cons (pe_lst (pa_cons pe_str (pa_cons pe_str (pa_cons pe_str pa_nil)))) (pa_cons (pe_lst (pa_cons pe_str (pa_cons pe_str (pa_cons pe_str (pa_cons pe_str pa_nil))))) pa_nil)))) pa_nil))))
        (pss_cons (ps_par3 (i := 4) (j := 5) (l := 6) rfl scLaw.nd rfl rfl rfl (by decide) (by decide) (by decide) rfl rfl rfl (pa_cons (pe_call GP hr5 (by rfl) mP kP bP .nil pass0 (pa_cons (pv 1) (pa_cons (pv 3) pa_nil))) (pa_cons (pe_call GP hr5 (by rfl) mP kP bP .nil pass0 (pa_cons (pv 1) (pa_cons (pv 3) pa_nil)))
            (pa_cons (pe_call GP hr5 (by rfl) mP kP bP .nil pass0 (pa_cons (pv 1) (pa_cons (pv 3) pa_nil))) pa_nil))) (by rfl))
        (pss_cons (ps_if (PW.pt (pw_or (pt_not (pt_val (pe_call GR hr (by rfl) mR kR bR .nil pass0 (pa_cons (pv 4) pa_nil)))) (pw_or (pt_not (pt_val (pe_call GR hr (by rfl) mR kR bR .nil pass0 (pa_cons (pv 5) pa_nil))))
            (pw_or1 (pt_not (pt_val (pe_call GR hr (by rfl) mR kR bR .nil pass0 (pa_cons (pv 6) pa_nil)))))))) (pss_one (ps_ret pe_bl)) pss_nil)
        (pss_cons (ps_if (PW.pt (pw_or (pt_not (pt_val (pe_call GM hr (by rfl) mM kM bM .nil pass0 (pa_cons (pv 4) (pa_cons (pv 5) pa_nil))))) (pw_or (pt_not (pt_val (pe_call GM hr (by rfl) mM kM bM .nil pass0 (pa_cons (pv 4) (pa_cons (pv 6) pa_nil)))))
            (pw_or1 (pt_not (pt_val (pe_call GM hr (by rfl) mM kM bM .nil pass0 (pa_cons (pv 6) (pa_cons (pv 6) pa_nil))))))))) (pss_one (ps_ret pe_bl)) pss_nil)
        (pss_cons (ps_if (PW.pt (pw_or (pt_cmpR (op_neP W hr2) (pe_op (op_andP W hr5) (pe_op (op_andP W hr5) (pv 4) (pv 5)) (pv 6)) (pe_op (op_andP W hr5) (pv 4) (pe_op (op_andP W hr5) (pv 5) (pv 6))) (nomark _))
            (pw_or1 (pt_cmpR (op_neP W hr2) (pe_op (op_andP W hr5) (pv 4) (pe_makeR0 W.mMk W.cMk hr3 (by rfl) W.U.mgC pass0)) (pe_makeR0 W.mMk W.cMk hr3 (by rfl) W.U.mgC pass0) (nomark _))))) (pss_one (ps_ret pe_bl)) pss_nil)
        (pss_cons (ps_set (i := 7) scLaw.nd rfl (Or.inl rfl) (pe_meth (pv 4) W.U.cl W.mHead W.cHead hr4 W.bHead .nil pass0 (pa_cons (pe_call W.cDraw hr1 (by rfl) W.mDraw W.kDraw W.bDraw .nil pass0 (pa_cons (pv 1)
            (pa_cons (pe_op op_add (pe_callB (call_lenP W hr2) (by rfl) W.T.b.len PySem.boot_len (pa_cons (pv 4) pa_nil)) pe_int) pa_nil))) pa_nil)))
        (pss_one (ps_if (PW.pt (pw_or (pt_cmpR (op_neP W hr2) (pe_op (op_andP W hr5) (pv 4) (pv 7)) (pv 7) (nomark _)) (pw_or (pt_cmpR (op_notInP W hr4) (pv 4) (pv 7) rfl)
            (pw_or1 (PW.pt (pw_and (pt_cmpR op_lt (pe_callB (call_lenP W hr2) (by rfl) W.T.b.len PySem.boot_len (pa_cons (pv 4) pa_nil)) pe_int (nomark _))
              (pw_and1 (pt_cmpR (op_neP W hr2) (pe_op (op_andP W hr5) (pe_op (op_addP W hr4) (pv 4) pe_str) (pv 5)) (pe_op (op_andP W hr5) (pv 4) (pv 5)) (nomark _))))))))) (pss_one (ps_ret pe_bl)) pss_nil)))))))))
      (pss_one (ps_ret pe_bl))), ?_⟩
    refine ⟨_, rfl, ad, ns0, rfl, hS, hlen, fun l H1 s1 nl PN => ?_⟩
    refine ⟨5, rfl, by decide, by decide, for_it (walk_range (lo := 0) (n := (5 : Int).toNat)) (fun i σ H' => ∃ v2 v3 v4 v5 v6 v7, σ = [some (.ref ad), some (.ref l), v2, v3, v4, v5, v6, v7] ∧ PenAt H' l (i * 100))
      ⟨none, none, none, none, none, none, rfl, PN⟩ (fun _ _ _ _ _ => trivial) (fun i x σ H3 H2 hi e y => ?_) (fun σ H2 e => ?_)⟩
    · obtain ⟨v2, v3, v4, v5, v6, v7, rfl, PN2⟩ := e
      obtain ⟨rfl, rfl⟩ := y
      have hi5 : i < 5 := hi
      obtain ⟨lx, hlx⟩ := PN2.lst
      -- the three pools
      refine ⟨_, rfl, ⟨by show 2 ≤ sizeLine; decide, fun m1 hm1 => ⟨by show 3 ≤ sizeLine; decide, fun m2 hm2 => ⟨by show 4 ≤ sizeLine; decide, fun m3 hm3 => ⟨by show 3 ≤ sizeLine; decide, fun L hL => ?_⟩⟩⟩⟩⟩
      have q1 : Same H2 (upd H2 m1 (.lst [V.str "a", V.str "b"])) := fun b o hb => by rw [upd_ne (ne_of_none hb hm1)]; exact hb
      generalize hA : upd H2 m1 (.lst [V.str "a", V.str "b"]) = HA at *
      have g1 : HA m1 = some (.lst [V.str "a", V.str "b"]) := by rw [← hA]; exact upd_same
      have q2 : Same HA (upd HA m2 (.lst [V.str "a", V.str "aa", V.str "aaa"])) := fun b o hb => by rw [upd_ne (ne_of_none hb hm2)]; exact hb
      generalize hB : upd HA m2 (.lst [V.str "a", V.str "aa", V.str "aaa"]) = HB at *
      have g2 : HB m2 = some (.lst [V.str "a", V.str "aa", V.str "aaa"]) := by rw [← hB]; exact upd_same
      have q3 : Same HB (upd HB m3 (.lst [V.str "0", V.str "a", V.str "abcdefgh", V.str "z"])) := fun b o hb => by rw [upd_ne (ne_of_none hb hm3)]; exact hb
      generalize hC : upd HB m3 (.lst [V.str "0", V.str "a", V.str "abcdefgh", V.str "z"]) = HC at *
      have g3 : HC m3 = some (.lst [V.str "0", V.str "a", V.str "abcdefgh", V.str "z"]) := by rw [← hC]; exact upd_same
      have q4 : Same HC (upd HC L (.lst [V.ref m1, V.ref m2, V.ref m3])) := fun b o hb => by rw [upd_ne (ne_of_none hb hL)]; exact hb
      generalize hD : upd HC L (.lst [V.ref m1, V.ref m2, V.ref m3]) = HD at *
      have g4 : HD L = some (.lst [V.ref m1, V.ref m2, V.ref m3]) := by rw [← hD]; exact upd_same
      have q14 := ((q1.trans q2).trans q3).trans q4
      have nL : L ≠ l := fun e => by
        rw [e, ((q1.trans q2).trans q3) _ _ hlx] at hL
        cases hL
      refine ⟨l, L, _, i * 100, rfl, PN2.mono q14 (Nat.le_refl _), by omega, g4, nL, by show 0 < 3; decide, by show 3 < 1000000; decide, fun j x H4 hj b4 p4 => ?_⟩
      obtain ⟨m, pool, rfl, hm, hml, hpe, hpl, hpo, hpq⟩ : ∃ (m : Addr) (pool : List Str), x = .ref m ∧ HD m = some (.lst (pool.map V.str)) ∧ m ≠ l ∧ pool ≠ [] ∧ pool.length < 1000 ∧ (∀ n ∈ pool, okN n = true) ∧ ("q" : Str) ∉ pool := by
        have hx := List.mem_of_getElem? hj
        simp only [List.mem_cons, List.not_mem_nil, or_false] at hx
        rcases hx with h | h | h
        · refine ⟨m1, ["a", "b"], h, q4 _ _ (q3 _ _ (q2 _ _ g1)), fun e => ?_, by simp, by decide, by decide +kernel, by decide +kernel⟩
          rw [e, hlx] at hm1
          cases hm1
        · refine ⟨m2, ["a", "aa", "aaa"], h, q4 _ _ (q3 _ _ g2), fun e => ?_, by simp, by decide, by decide +kernel, by decide +kernel⟩
          rw [e, q1 _ _ hlx] at hm2
          cases hm2
        · refine ⟨m3, ["0", "a", "abcdefgh", "z"], h, q4 _ _ g3, fun e => ?_, by simp, by decide, by decide +kernel, by decide +kernel⟩
          rw [e, (q1.trans q2) _ _ hlx] at hm3
          cases hm3
      have hm4 := b4 _ _ hm hml
      obtain ⟨lx4, hl4⟩ := p4.lst
      refine ⟨_, rfl, _, rfl, l, m, pool, _, rfl, p4, by omega, hm4, hml, hpe, hpl, hpo, fun pa na H5 b5 Pa Na Ia p5 => ?_⟩
      obtain ⟨lx5, hl5⟩ := p5.lst
      have hm5 := b5 _ _ hm4 hml
      refine ⟨_, rfl, _, rfl, l, m, pool, _, rfl, p5, by omega, hm5, hml, hpe, hpl, hpo, fun pb nb H6 b6 Pb Nb Ib p6 => ?_⟩
      obtain ⟨lx6, hl6⟩ := p6.lst
      have hm6 := b6 _ _ hm5 hml
      refine ⟨_, rfl, _, rfl, l, m, pool, _, rfl, p6, by omega, hm6, hml, hpe, hpl, hpo, fun pc nc H7 b7 Pc Nc Ic p7 => ?_⟩
      have Pb7 := Pb.but b7 hl6
      have Pa7 := (Pa.but b6 hl5).but b7 hl6
      refine ⟨_, _, _, rfl, ?_⟩
      -- way_right of the three
      refine ⟨_, rfl, pa, na, rfl, Pa7, Na, fun H8 s8 => ⟨_, rfl, ?_⟩⟩
      refine iteF ⟨_, rfl, pb, nb, rfl, Pb7.mono s8, Nb, fun H9 s9 => ⟨_, rfl, ?_⟩⟩
      have s79 := s8.trans s9
      refine iteF ⟨_, rfl, pc, nc, rfl, Pc.mono s79, Nc, fun H10 s10 => ⟨_, rfl, ?_⟩⟩
      have s710 := s79.trans s10
      refine iteF ?_
      refine ⟨_, rfl, _, rfl, pa, pb, na, nb, rfl, Pa7.mono s710, Pb7.mono s710, Na, Nb, fun H11 s11 => ⟨_, rfl, ?_⟩⟩
      have s711 := s710.trans s11
      refine iteF ⟨_, rfl, _, rfl, pa, pc, na, nc, rfl, Pa7.mono s711, Pc.mono s711, Na, Nc, fun H12 s12 => ⟨_, rfl, ?_⟩⟩
      have s712 := s711.trans s12
      refine iteF ⟨_, rfl, _, rfl, pc, pc, nc, nc, rfl, Pc.mono s712, Pc.mono s712, Nc, Nc, fun H13 s13 => ⟨_, rfl, ?_⟩⟩
      have s713 := s712.trans s13
      refine iteF ?_
      -- the meets
      have Pa13 := Pa7.mono s713
      have Pb13 := Pb7.mono s713
      have Pc13 := Pc.mono s713
      refine ⟨_, rfl, _, rfl, pa, pb, na, nb, rfl, rfl, Pa13, Pb13, Na, Nb, fun r1 H14 s14 R1 => ?_⟩
      refine ⟨_, rfl, r1, pc, mt na nb, nc, rfl, rfl, R1, Pc13.mono s14, Na.mt, Nc, fun r2 H15 s15 R2 => ?_⟩
      have s1315 := s14.trans s15
      refine ⟨_, rfl, _, rfl, _, rfl, pb, pc, nb, nc, rfl, rfl, Pb13.mono s1315, Pc13.mono s1315, Nb, Nc, fun r3 H16 s16 R3 => ?_⟩
      have s1316 := s1315.trans s16
      refine ⟨pa, r3, na, mt nb nc, rfl, rfl, Pa13.mono s1316, R3, Na, Nb.mt, fun r4 H17 s17 R4 => ?_⟩
      refine ⟨r2, r4, mt (mt na nb) nc, mt na (mt nb nc), rfl, rfl, (R2.mono s16).mono s17, R4, Na.mt.mt, Na.mt, _, rfl, ?_⟩
      rw [decide_eq_true (mt_assoc na nb nc)]
      have s1317 := s1316.trans s17
      refine iteF ⟨_, rfl, ?_⟩
      intro x1 d1 hx1 hd1 hn1
      refine make_at (C := a.C) (ns := []) nms0 hx1 hd1 hn1 (fun H18 s18 Z1 => ?_)
      refine ⟨pa, x1, na, [], rfl, rfl, (Pa13.mono s1317).mono s18, Z1, Na, nms0, fun r5 H19 s19 R5 => ?_⟩
      have e0 : na.take (shr na []) = [] := mt_nil2 na
      rw [e0] at R5
      intro x2 d2 hx2 hd2 hn2
      refine make_at (C := a.C) (ns := []) nms0 hx2 hd2 hn2 (fun H20 s20 Z2 => ?_)
      refine ⟨r5, x2, [], [], rfl, rfl, R5.mono s20, Z2, nms0, nms0, _, rfl, ?_⟩
      rw [decide_eq_true rfl]
      refine iteF ?_
      have s1320 := ((s1317.trans s18).trans s19).trans s20
      have s720 := s713.trans s1320
      have Pa20 := Pa13.mono s1320
      have Pb20 := Pb13.mono s1320
      have p20 := p7.mono s720 (Nat.le_refl _)
      obtain ⟨da, ta, ka⟩ := Pa20.ins
      obtain ⟨lx20, hl20⟩ := p20.lst
      have na8 := Na.1
      refine ⟨_, rfl, pa, da, _, rfl, ka, pf_no _ (by decide +kernel), _, rfl, _, rfl, pa, na, rfl, Pa20, Na, _, _, rfl, rfl, l, _, _, rfl, p20, by omega, by omega, by omega, fun r H21 r0 r1 b21 p21 => ?_⟩
      have Pa21 := Pa20.but b21 hl20
      have Pb21 := Pb20.but b21 hl20
      refine ⟨pa, na, r, rfl, Pa21, Na, r0, by omega, fun ps H22 s22 Ps => ?_⟩
      have hk : r.toNat ≤ na.length := by omega
      have Ns := Na.take r.toNat
      have Pa22 := Pa21.mono s22
      have Pb22 := Pb21.mono s22
      refine ⟨_, rfl, _, rfl, pa, ps, na, na.take r.toNat, rfl, rfl, Pa22, Ps, Na, Ns, fun r6 H23 s23 R6 => ?_⟩
      have e1 : na.take (shr na (na.take r.toNat)) = na.take r.toNat := mt_take na _ hk
      rw [e1] at R6
      refine ⟨_, rfl, r6, ps, na.take r.toNat, na.take r.toNat, rfl, rfl, R6, Ps.mono s23, Ns, Ns, _, rfl, ?_⟩
      rw [decide_eq_true rfl]
      refine iteF ⟨_, rfl, _, rfl, ps, pa, na.take r.toNat, na, rfl, rfl, Ps.mono s23, Pa22.mono s23, Ns, Na, fun H24 s24 => ⟨_, rfl, ?_⟩⟩
      have e2 : na.take (na.take r.toNat).length = na.take r.toNat := by
        rw [List.length_take]
        congr 1
        omega
      rw [e2, decide_eq_true rfl]
      have s2224 := s23.trans s24
      have Pa24 := Pa22.mono s2224
      have Pb24 := Pb22.mono s2224
      have p24 := p21.mono (s22.trans s2224) (Nat.le_refl _)
      have last : ∀ H', Same H24 H' → PenAt H' l ((i + 1) * 100) := fun H' s => p24.mono s (by omega)
      refine iteF ⟨_, rfl, pa, na, rfl, Pa24, Na, _, _, rfl, rfl, _, rfl, ite2 (fun hlt => ?_) (fun _ => ?_)⟩
      · have hlt' : na.length < 8 := by
          have : (na.length : Int) < 8 := by simpa using hlt
          omega
        have Nq : Nms (na ++ [("q" : Str)]) := ⟨by rw [List.length_append, List.length_singleton]; omega, fun n hn => by
          rcases List.mem_append.mp hn with h | h
          · exact Na.2 n h
          · rw [List.mem_singleton.mp h]
            decide +kernel⟩
        refine ⟨_, rfl, pa, na, "q", rfl, rfl, Pa24, Nq, fun r7 H25 s25 R7 => ?_⟩
        refine ⟨_, rfl, r7, pb, na ++ [("q" : Str)], nb, rfl, rfl, R7, Pb24.mono s25, Nq, Nb, fun r8 H26 s26 R8 => ?_⟩
        have s2426 := s25.trans s26
        refine ⟨_, rfl, _, rfl, pa, pb, na, nb, rfl, rfl, Pa24.mono s2426, Pb24.mono s2426, Na, Nb, fun r9 H27 s27 R9 => ?_⟩
        refine ⟨r8, r9, mt (na ++ [("q" : Str)]) nb, mt na nb, rfl, rfl, R8.mono s27, R9, Nq.mt, Na.mt, _, rfl, ?_⟩
        rw [decide_eq_true (mt_q na nb "q" fun h => hpq (Ib _ h))]
        exact iteF ⟨_, _, _, _, _, _, rfl, last _ (s2426.trans s27)⟩
      · exact ⟨_, _, _, _, _, _, rfl, last _ (Same.refl _)⟩
    · exact k H2
end
end Pl

namespace Pl
open PySem L2 Own TL RZ
theorem all_mk {l : PySem.W.OpenLaw} {w : World} {K : PySem.W.Frag} {h : Heap} {mg : Str → Option Value} {fa C fInt fNam fPTx fIsP fPen fDrw fPck fLPl fWay fWR fMR fLaw fIni fRd pRd fOf pOf fNms pNms fTxt pTxt fUp pUp fAdd fHd fCon fAnd fLen fBoo fEq fAhd : Addr} (X : K.In h) (G : h.Ns mainGlobals mg) (hfa : mg "law" = some (.ref fa))
    {odInt anInt odNam anNam odPTx anPTx odIsP anIsP odPen anPen odDrw anDrw odPck anPck odLPl anLPl odWay anWay odWR anWR odMR anMR odLaw anLaw odIni anIni odRd anRd odOf anOf odNms anNms odTxt anTxt odUp anUp odAdd anAdd odHd anHd odCon anCon odAnd anAnd odLen anLen odBoo anBoo odEq anEq odAhd anAhd : Option Addr} {slInt slNam slPTx slIsP slPen slDrw slPck slLPl slWay slWR slMR slLaw slIni slRd slOf slNms slTxt slUp slAdd slHd slCon slAnd slLen slBoo slEq slAhd : Array (Option Value)} {ocInt kVInt dcInt pmInt cdInt ctInt ocNam kVNam dcNam pmNam cdNam ctNam ocPTx kVPTx dcPTx pmPTx cdPTx ctPTx ocIsP kVIsP dcIsP pmIsP cdIsP ctIsP ocPen kVPen dcPen pmPen cdPen ctPen ocDrw kVDrw dcDrw pmDrw cdDrw ctDrw ocPck kVPck dcPck pmPck cdPck ctPck ocLPl kVLPl dcLPl pmLPl cdLPl ctLPl ocWay kVWay dcWay pmWay cdWay ctWay ocWR kVWR dcWR pmWR cdWR ctWR ocMR kVMR dcMR pmMR cdMR ctMR ocLaw kVLaw dcLaw pmLaw cdLaw ctLaw ocIni kVIni dcIni pmIni cdIni ctIni ocRd kVRd dcRd pmRd cdRd ctRd ocOf kVOf dcOf pmOf cdOf ctOf ocNms kVNms dcNms pmNms cdNms ctNms ocTxt kVTxt dcTxt pmTxt cdTxt ctTxt ocUp kVUp dcUp pmUp cdUp ctUp ocAdd kVAdd dcAdd pmAdd cdAdd ctAdd ocHd kVHd dcHd pmHd cdHd ctHd ocCon kVCon dcCon pmCon cdCon ctCon ocAnd kVAnd dcAnd pmAnd cdAnd ctAnd ocLen kVLen dcLen pmLen cdLen ctLen ocBoo kVBoo dcBoo pmBoo cdBoo ctBoo ocEq kVEq dcEq pmEq cdEq ctEq ocAhd kVAhd dcAhd pmAhd cdAhd ctAhd : Value} {rrRd rrOf rrNms rrTxt rrUp : List Value} {tM tL : Tok}
    (aInt : PySem.W.nsIn K mainGlobals "is_integer" = some (some (.ref fInt)))
    (lInt : K.lookup fInt = some ⟨ocInt, odInt, .func (PySem.W.fnOf "is_integer" "is_integer" (defArgs sIsInt) (defBody sIsInt) (defScope sIsInt) .none kVInt dcInt pmInt anInt cdInt ctInt), slInt⟩)
    (cInt : PySem.W.codeIn K cdInt "is_integer" = true)
    (kInt : PySem.W.keepIn K (.ref fInt) = true)
    (aNam : PySem.W.nsIn K mainGlobals "is_name" = some (some (.ref fNam)))
    (lNam : K.lookup fNam = some ⟨ocNam, odNam, .func (PySem.W.fnOf "is_name" "is_name" (defArgs sIsName) (defBody sIsName) (defScope sIsName) .none kVNam dcNam pmNam anNam cdNam ctNam), slNam⟩)
    (cNam : PySem.W.codeIn K cdNam "is_name" = true)
    (kNam : PySem.W.keepIn K (.ref fNam) = true)
    (aPTx : PySem.W.nsIn K mainGlobals "is_place_text" = some (some (.ref fPTx)))
    (lPTx : K.lookup fPTx = some ⟨ocPTx, odPTx, .func (PySem.W.fnOf "is_place_text" "is_place_text" (defArgs sPText) (defBody sPText) (defScope sPText) .none kVPTx dcPTx pmPTx anPTx cdPTx ctPTx), slPTx⟩)
    (cPTx : PySem.W.codeIn K cdPTx "is_place_text" = true)
    (kPTx : PySem.W.keepIn K (.ref fPTx) = true)
    (aIsP : PySem.W.nsIn K mainGlobals "is_place" = some (some (.ref fIsP)))
    (lIsP : K.lookup fIsP = some ⟨ocIsP, odIsP, .func (PySem.W.fnOf "is_place" "is_place" (defArgs sIsPlace) (defBody sIsPlace) (defScope sIsPlace) .none kVIsP dcIsP pmIsP anIsP cdIsP ctIsP), slIsP⟩)
    (cIsP : PySem.W.codeIn K cdIsP "is_place" = true)
    (kIsP : PySem.W.keepIn K (.ref fIsP) = true)
    (aPen : PySem.W.nsIn K mainGlobals "_law_pen" = some (some (.ref fPen)))
    (lPen : K.lookup fPen = some ⟨ocPen, odPen, .func (PySem.W.fnOf "_law_pen" "_law_pen" (defArgs sPen) (defBody sPen) (defScope sPen) .none kVPen dcPen pmPen anPen cdPen ctPen), slPen⟩)
    (cPen : PySem.W.codeIn K cdPen "_law_pen" = true)
    (kPen : PySem.W.keepIn K (.ref fPen) = true)
    (aDrw : PySem.W.nsIn K mainGlobals "_law_draw" = some (some (.ref fDrw)))
    (lDrw : K.lookup fDrw = some ⟨ocDrw, odDrw, .func (PySem.W.fnOf "_law_draw" "_law_draw" (defArgs sDraw) (defBody sDraw) (defScope sDraw) .none kVDrw dcDrw pmDrw anDrw cdDrw ctDrw), slDrw⟩)
    (cDrw : PySem.W.codeIn K cdDrw "_law_draw" = true)
    (kDrw : PySem.W.keepIn K (.ref fDrw) = true)
    (aPck : PySem.W.nsIn K mainGlobals "_law_pick" = some (some (.ref fPck)))
    (lPck : K.lookup fPck = some ⟨ocPck, odPck, .func (PySem.W.fnOf "_law_pick" "_law_pick" (defArgs sPick) (defBody sPick) (defScope sPick) .none kVPck dcPck pmPck anPck cdPck ctPck), slPck⟩)
    (cPck : PySem.W.codeIn K cdPck "_law_pick" = true)
    (kPck : PySem.W.keepIn K (.ref fPck) = true)
    (aLPl : PySem.W.nsIn K mainGlobals "_law_place" = some (some (.ref fLPl)))
    (lLPl : K.lookup fLPl = some ⟨ocLPl, odLPl, .func (PySem.W.fnOf "_law_place" "_law_place" (defArgs sLPlace) (defBody sLPlace) (defScope sLPlace) .none kVLPl dcLPl pmLPl anLPl cdLPl ctLPl), slLPl⟩)
    (cLPl : PySem.W.codeIn K cdLPl "_law_place" = true)
    (kLPl : PySem.W.keepIn K (.ref fLPl) = true)
    (aWay : PySem.W.nsIn K mainGlobals "_law_way" = some (some (.ref fWay)))
    (lWay : K.lookup fWay = some ⟨ocWay, odWay, .func (PySem.W.fnOf "_law_way" "_law_way" (defArgs sWay) (defBody sWay) (defScope sWay) .none kVWay dcWay pmWay anWay cdWay ctWay), slWay⟩)
    (cWay : PySem.W.codeIn K cdWay "_law_way" = true)
    (kWay : PySem.W.keepIn K (.ref fWay) = true)
    (aWR : PySem.W.nsIn K mainGlobals "_law_way_right" = some (some (.ref fWR)))
    (lWR : K.lookup fWR = some ⟨ocWR, odWR, .func (PySem.W.fnOf "_law_way_right" "_law_way_right" (defArgs sWR) (defBody sWR) (defScope sWR) .none kVWR dcWR pmWR anWR cdWR ctWR), slWR⟩)
    (cWR : PySem.W.codeIn K cdWR "_law_way_right" = true)
    (kWR : PySem.W.keepIn K (.ref fWR) = true)
    (aMR : PySem.W.nsIn K mainGlobals "_law_met_right" = some (some (.ref fMR)))
    (lMR : K.lookup fMR = some ⟨ocMR, odMR, .func (PySem.W.fnOf "_law_met_right" "_law_met_right" (defArgs sMR) (defBody sMR) (defScope sMR) .none kVMR dcMR pmMR anMR cdMR ctMR), slMR⟩)
    (cMR : PySem.W.codeIn K cdMR "_law_met_right" = true)
    (kMR : PySem.W.keepIn K (.ref fMR) = true)
    (aLaw : PySem.W.nsIn K mainGlobals "law" = some (some (.ref fLaw)))
    (lLaw : K.lookup fLaw = some ⟨ocLaw, odLaw, .func (PySem.W.fnOf "law" "law" (defArgs sLaw) (defBody sLaw) (defScope sLaw) .none kVLaw dcLaw pmLaw anLaw cdLaw ctLaw), slLaw⟩)
    (cLaw : PySem.W.codeIn K cdLaw "law" = true)
    (kLaw : PySem.W.keepIn K (.ref fLaw) = true)
    (lIni : K.lookup fIni = some ⟨ocIni, odIni, .func (PySem.W.fnOf "__init__" "Place.__init__" (defArgs sInit) (defBody sInit) (defScope sInit) .none kVIni dcIni pmIni anIni cdIni ctIni), slIni⟩)
    (cIni : PySem.W.codeIn K cdIni "Place.__init__" = true)
    (kIni : PySem.W.keepIn K (.ref fIni) = true)
    (aIni : PySem.W.findIn K (.ref C) "__init__" = some (some (.ref fIni)))
    (iIni : PySem.W.isFn K (.ref fIni) = true)
    (lRd : K.lookup fRd = some ⟨ocRd, odRd, .func (PySem.W.fnOf "read" "Place.read" (defArgs sRead) (defBody sRead) (defScope sRead) .none kVRd dcRd pmRd anRd cdRd ctRd), slRd⟩)
    (cRd : PySem.W.codeIn K cdRd "Place.read" = true)
    (kRd : PySem.W.keepIn K (.ref fRd) = true)
    (aRd : PySem.W.findCls K (.ref C) (.type "type") "read" = some (.get (.builtin "classmethod.__get__") (.ref pRd) .none (.ref C)))
    (rRd : PySem.W.recIn K pRd "classmethod" = some (.ref fRd :: rrRd))
    (iRd : PySem.W.fnIn K fRd = true)
    (lOf : K.lookup fOf = some ⟨ocOf, odOf, .func (PySem.W.fnOf "of" "Place.of" (defArgs sOf) (defBody sOf) (defScope sOf) .none kVOf dcOf pmOf anOf cdOf ctOf), slOf⟩)
    (cOf : PySem.W.codeIn K cdOf "Place.of" = true)
    (kOf : PySem.W.keepIn K (.ref fOf) = true)
    (aOf : PySem.W.findCls K (.ref C) (.type "type") "of" = some (.get (.builtin "staticmethod.__get__") (.ref pOf) .none (.ref C)))
    (rOf : PySem.W.recIn K pOf "staticmethod" = some (.ref fOf :: rrOf))
    (lNms : K.lookup fNms = some ⟨ocNms, odNms, .func (PySem.W.fnOf "names" "Place.names" (defArgs sNames) (defBody sNames) (defScope sNames) .none kVNms dcNms pmNms anNms cdNms ctNms), slNms⟩)
    (cNms : PySem.W.codeIn K cdNms "Place.names" = true)
    (kNms : PySem.W.keepIn K (.ref fNms) = true)
    (aNms : PySem.W.findIn K (.ref C) "names" = some (some (.ref pNms)))
    (gNms : PySem.W.specialIn K (.ref pNms) "__get__" = some (some (.builtin "property.__get__")))
    (tNms : PySem.W.takesIn K (.ref pNms) = some true)
    (rNms : PySem.W.recIn K pNms "property" = some (.ref fNms :: rrNms))
    (lTxt : K.lookup fTxt = some ⟨ocTxt, odTxt, .func (PySem.W.fnOf "text" "Place.text" (defArgs sText) (defBody sText) (defScope sText) .none kVTxt dcTxt pmTxt anTxt cdTxt ctTxt), slTxt⟩)
    (cTxt : PySem.W.codeIn K cdTxt "Place.text" = true)
    (kTxt : PySem.W.keepIn K (.ref fTxt) = true)
    (aTxt : PySem.W.findIn K (.ref C) "text" = some (some (.ref pTxt)))
    (gTxt : PySem.W.specialIn K (.ref pTxt) "__get__" = some (some (.builtin "property.__get__")))
    (tTxt : PySem.W.takesIn K (.ref pTxt) = some true)
    (rTxt : PySem.W.recIn K pTxt "property" = some (.ref fTxt :: rrTxt))
    (lUp : K.lookup fUp = some ⟨ocUp, odUp, .func (PySem.W.fnOf "up" "Place.up" (defArgs sUp) (defBody sUp) (defScope sUp) .none kVUp dcUp pmUp anUp cdUp ctUp), slUp⟩)
    (cUp : PySem.W.codeIn K cdUp "Place.up" = true)
    (kUp : PySem.W.keepIn K (.ref fUp) = true)
    (aUp : PySem.W.findIn K (.ref C) "up" = some (some (.ref pUp)))
    (gUp : PySem.W.specialIn K (.ref pUp) "__get__" = some (some (.builtin "property.__get__")))
    (tUp : PySem.W.takesIn K (.ref pUp) = some true)
    (rUp : PySem.W.recIn K pUp "property" = some (.ref fUp :: rrUp))
    (lAdd : K.lookup fAdd = some ⟨ocAdd, odAdd, .func (PySem.W.fnOf "__add__" "Place.__add__" (defArgs sAdd) (defBody sAdd) (defScope sAdd) .none kVAdd dcAdd pmAdd anAdd cdAdd ctAdd), slAdd⟩)
    (cAdd : PySem.W.codeIn K cdAdd "Place.__add__" = true)
    (kAdd : PySem.W.keepIn K (.ref fAdd) = true)
    (aAdd : PySem.W.findIn K (.ref C) "__add__" = some (some (.ref fAdd)))
    (iAdd : PySem.W.isFn K (.ref fAdd) = true)
    (lHd : K.lookup fHd = some ⟨ocHd, odHd, .func (PySem.W.fnOf "head" "Place.head" (defArgs sHead) (defBody sHead) (defScope sHead) .none kVHd dcHd pmHd anHd cdHd ctHd), slHd⟩)
    (cHd : PySem.W.codeIn K cdHd "Place.head" = true)
    (kHd : PySem.W.keepIn K (.ref fHd) = true)
    (aHd : PySem.W.findIn K (.ref C) "head" = some (some (.ref fHd)))
    (iHd : PySem.W.isFn K (.ref fHd) = true)
    (lCon : K.lookup fCon = some ⟨ocCon, odCon, .func (PySem.W.fnOf "__contains__" "Place.__contains__" (defArgs sCont) (defBody sCont) (defScope sCont) .none kVCon dcCon pmCon anCon cdCon ctCon), slCon⟩)
    (cCon : PySem.W.codeIn K cdCon "Place.__contains__" = true)
    (kCon : PySem.W.keepIn K (.ref fCon) = true)
    (aCon : PySem.W.findIn K (.ref C) "__contains__" = some (some (.ref fCon)))
    (iCon : PySem.W.isFn K (.ref fCon) = true)
    (lAnd : K.lookup fAnd = some ⟨ocAnd, odAnd, .func (PySem.W.fnOf "__and__" "Place.__and__" (defArgs sAnd) (defBody sAnd) (defScope sAnd) .none kVAnd dcAnd pmAnd anAnd cdAnd ctAnd), slAnd⟩)
    (cAnd : PySem.W.codeIn K cdAnd "Place.__and__" = true)
    (kAnd : PySem.W.keepIn K (.ref fAnd) = true)
    (aAnd : PySem.W.findIn K (.ref C) "__and__" = some (some (.ref fAnd)))
    (iAnd : PySem.W.isFn K (.ref fAnd) = true)
    (lLen : K.lookup fLen = some ⟨ocLen, odLen, .func (PySem.W.fnOf "__len__" "Place.__len__" (defArgs sLen) (defBody sLen) (defScope sLen) .none kVLen dcLen pmLen anLen cdLen ctLen), slLen⟩)
    (cLen : PySem.W.codeIn K cdLen "Place.__len__" = true)
    (kLen : PySem.W.keepIn K (.ref fLen) = true)
    (aLen : PySem.W.findIn K (.ref C) "__len__" = some (some (.ref fLen)))
    (iLen : PySem.W.isFn K (.ref fLen) = true)
    (lBoo : K.lookup fBoo = some ⟨ocBoo, odBoo, .func (PySem.W.fnOf "__bool__" "Place.__bool__" (defArgs sBool) (defBody sBool) (defScope sBool) .none kVBoo dcBoo pmBoo anBoo cdBoo ctBoo), slBoo⟩)
    (cBoo : PySem.W.codeIn K cdBoo "Place.__bool__" = true)
    (kBoo : PySem.W.keepIn K (.ref fBoo) = true)
    (aBoo : PySem.W.findIn K (.ref C) "__bool__" = some (some (.ref fBoo)))
    (iBoo : PySem.W.isFn K (.ref fBoo) = true)
    (lEq : K.lookup fEq = some ⟨ocEq, odEq, .func (PySem.W.fnOf "__eq__" "Place.__eq__" (defArgs sEq) (defBody sEq) (defScope sEq) .none kVEq dcEq pmEq anEq cdEq ctEq), slEq⟩)
    (cEq : PySem.W.codeIn K cdEq "Place.__eq__" = true)
    (kEq : PySem.W.keepIn K (.ref fEq) = true)
    (aEq : PySem.W.findIn K (.ref C) "__eq__" = some (some (.ref fEq)))
    (iEq : PySem.W.isFn K (.ref fEq) = true)
    (lAhd : K.lookup fAhd = some ⟨ocAhd, odAhd, .func (PySem.W.fnOf "is_ahead" "Place.is_ahead" (defArgs sAhead) (defBody sAhead) (defScope sAhead) .none kVAhd dcAhd pmAhd anAhd cdAhd ctAhd), slAhd⟩)
    (cAhd : PySem.W.codeIn K cdAhd "Place.is_ahead" = true)
    (kAhd : PySem.W.keepIn K (.ref fAhd) = true)
    (aAhd : PySem.W.findIn K (.ref C) "is_ahead" = some (some (.ref fAhd)))
    (iAhd : PySem.W.isFn K (.ref fAhd) = true)
    (aC : PySem.W.nsIn K mainGlobals "Place" = some (some (.ref C)))
    (pg : PySem.W.plainGet K C Str.empty = true)
    (hd : PySem.W.hasDictIn K C = true)
    (po : PySem.W.plainOver K C = true)
    (sa : PySem.W.findIn K (.ref C) "__setattr__" = some (some (.builtin "object.__setattr__")))
    (mk : PySem.W.makesIn K C = true)
    (kc : PySem.W.keepIn K (.ref C) = true)
    (nN : PySem.W.findIn K (.ref C) "_names" = some none)
    (rd : PySem.W.readsIn K C (.type "type") = true)
    (ga : PySem.W.specialIn K (.ref C) "__getattribute__" = some (some (.builtin "type.__getattribute__")))
    (mo : PySem.W.findCls K (.ref C) (.type "type") "MOST" = some (.val (.int 8 tM)))
    (mi : PySem.W.findIn K (.ref C) "MOST" = some (some (.int 8 tM)))
    (ms : PySem.W.specialIn K (.int 8 tM) "__get__" = some none)
    (ha : PySem.W.findIn K (.ref C) "__class__" = some (some (.builtin "object.__class__")))
    (hn : PySem.W.specialIn K (.builtin "object.__class__") "__get__" = some (some (.builtin "getset_descriptor.__get__")))
    (htk : PySem.W.takesIn K (.builtin "object.__class__") = some true)
    (hm : PySem.W.mroIn K C (.type "object") = some true)
    (ty : PySem.W.typeIn K (.ref C) = some (.type "type"))
    (mC : PySem.W.mroIn K C (.ref C) = some true)
    (mS : PySem.W.mroIn K C (.type "str") = some false)
    (sf : PySem.W.selfFirst K C = true)
    (nE : PySem.W.findIn K (.ref C) "__ne__" = some (some (.builtin "object.__ne__")))
    (sub : PySem.W.subIn K (.ref C) (.type "object") = some true)
    (lg : PySem.W.nsIn K mainGlobals "LONGEST_NAME" = some (some (.int 8 tL)))
    (zisi : PySem.W.nsIn K mainGlobals "isinstance" = some none)
    (zint : PySem.W.nsIn K mainGlobals "int" = some none)
    (zbool : PySem.W.nsIn K mainGlobals "bool" = some none)
    (zstr : PySem.W.nsIn K mainGlobals "str" = some none)
    (zlen : PySem.W.nsIn K mainGlobals "len" = some none)
    (zall : PySem.W.nsIn K mainGlobals "all" = some none)
    (zzip : PySem.W.nsIn K mainGlobals "zip" = some none)
    (zrange : PySem.W.nsIn K mainGlobals "range" = some none)
    (zenum : PySem.W.nsIn K mainGlobals "enumerate" = some none)
    (zlist : PySem.W.nsIn K mainGlobals "list" = some none)
    (zabs : PySem.W.nsIn K mainGlobals "abs" = some none)
    : ∃ fd : FuncData, (∀ (s : Shared) (v : Value), BindsTo s fd ⟨[v], []⟩ [("_law_script", v)]) ∧ ∀ base : Heap, K.In base → base.Ns mainGlobals mg → FnOk l.prog w K mg base CX0 9 fa fd ["_law_script"] (spLaw K) := by
  have e := hfa.symm.trans (PySem.W.mg_of X G aLaw)
  cases e
  have FInt := fun_mk (st := sIsInt) lInt cInt kInt
  have mInt := PySem.W.mg_of X G aInt
  have bInt := FInt.binds (ps := ["value"]) fun _ _ _ _ _ _ us hl => match us, hl with | [_], _ => rfl
  have FNam := fun_mk (st := sIsName) lNam cNam kNam
  have mNam := PySem.W.mg_of X G aNam
  have bNam := FNam.binds (ps := ["value"]) fun _ _ _ _ _ _ us hl => match us, hl with | [_], _ => rfl
  have FPTx := fun_mk (st := sPText) lPTx cPTx kPTx
  have mPTx := PySem.W.mg_of X G aPTx
  have bPTx := FPTx.binds (ps := ["value"]) fun _ _ _ _ _ _ us hl => match us, hl with | [_], _ => rfl
  have FIsP := fun_mk (st := sIsPlace) lIsP cIsP kIsP
  have mIsP := PySem.W.mg_of X G aIsP
  have bIsP := FIsP.binds (ps := ["value"]) fun _ _ _ _ _ _ us hl => match us, hl with | [_], _ => rfl
  have FPen := fun_mk (st := sPen) lPen cPen kPen
  have mPen := PySem.W.mg_of X G aPen
  have bPen := FPen.binds (ps := ["_law_script"]) fun _ _ _ _ _ _ us hl => match us, hl with | [_], _ => rfl
  have FDrw := fun_mk (st := sDraw) lDrw cDrw kDrw
  have mDrw := PySem.W.mg_of X G aDrw
  have bDrw := FDrw.binds (ps := ["_law_pen_here", "_law_many"]) fun _ _ _ _ _ _ us hl => match us, hl with | [_, _], _ => rfl
  have FPck := fun_mk (st := sPick) lPck cPck kPck
  have mPck := PySem.W.mg_of X G aPck
  have bPck := FPck.binds (ps := ["_law_pen_here", "_law_some"]) fun _ _ _ _ _ _ us hl => match us, hl with | [_, _], _ => rfl
  have FLPl := fun_mk (st := sLPlace) lLPl cLPl kLPl
  have mLPl := PySem.W.mg_of X G aLPl
  have bLPl := FLPl.binds (ps := ["_law_pen_here", "_law_pool"]) fun _ _ _ _ _ _ us hl => match us, hl with | [_, _], _ => rfl
  have FWay := fun_mk (st := sWay) lWay cWay kWay
  have mWay := PySem.W.mg_of X G aWay
  have bWay := FWay.binds (ps := ["_law_here"]) fun _ _ _ _ _ _ us hl => match us, hl with | [_], _ => rfl
  have FWR := fun_mk (st := sWR) lWR cWR kWR
  have mWR := PySem.W.mg_of X G aWR
  have bWR := FWR.binds (ps := ["_law_here"]) fun _ _ _ _ _ _ us hl => match us, hl with | [_], _ => rfl
  have FMR := fun_mk (st := sMR) lMR cMR kMR
  have mMR := PySem.W.mg_of X G aMR
  have bMR := FMR.binds (ps := ["_law_one", "_law_other"]) fun _ _ _ _ _ _ us hl => match us, hl with | [_, _], _ => rfl
  have FLaw := fun_mk (st := sLaw) lLaw cLaw kLaw
  have mLaw := PySem.W.mg_of X G aLaw
  have bLaw := FLaw.binds (ps := ["_law_script"]) fun _ _ _ _ _ _ us hl => match us, hl with | [_], _ => rfl
  have FIni := fun_mk (st := sInit) lIni cIni kIni
  have FRd := fun_mk (st := sRead) lRd cRd kRd
  have bRd := FRd.binds (ps := ["cls", "text"]) fun _ _ _ _ _ _ us hl => match us, hl with | [_, _], _ => rfl
  have MRd : ClX.CMet K C (.type "type") "read" pRd fRd := ⟨aRd, ⟨_, rRd⟩, iRd⟩
  have FOf := fun_mk (st := sOf) lOf cOf kOf
  have bOf := FOf.binds (ps := ["value"]) fun _ _ _ _ _ _ us hl => match us, hl with | [_], _ => rfl
  have MOf : SMet K C (.type "type") "of" pOf fOf := ⟨aOf, ⟨_, rOf⟩, kOf⟩
  have FNms := fun_mk (st := sNames) lNms cNms kNms
  have bNms := FNms.binds (ps := ["self"]) fun _ _ _ _ _ _ us hl => match us, hl with | [_], _ => rfl
  have MNms : PropOf K C "names" pNms fNms := ⟨aNms, gNms, tNms, ⟨_, rNms⟩⟩
  have FTxt := fun_mk (st := sText) lTxt cTxt kTxt
  have bTxt := FTxt.binds (ps := ["self"]) fun _ _ _ _ _ _ us hl => match us, hl with | [_], _ => rfl
  have MTxt : PropOf K C "text" pTxt fTxt := ⟨aTxt, gTxt, tTxt, ⟨_, rTxt⟩⟩
  have FUp := fun_mk (st := sUp) lUp cUp kUp
  have bUp := FUp.binds (ps := ["self"]) fun _ _ _ _ _ _ us hl => match us, hl with | [_], _ => rfl
  have MUp : PropOf K C "up" pUp fUp := ⟨aUp, gUp, tUp, ⟨_, rUp⟩⟩
  have FAdd := fun_mk (st := sAdd) lAdd cAdd kAdd
  have bAdd := FAdd.binds (ps := ["self", "other"]) fun _ _ _ _ _ _ us hl => match us, hl with | [_, _], _ => rfl
  have MAdd : Meth K C "__add__" fAdd := ⟨aAdd, iAdd, kAdd⟩
  have FHd := fun_mk (st := sHead) lHd cHd kHd
  have bHd := FHd.binds (ps := ["self", "k"]) fun _ _ _ _ _ _ us hl => match us, hl with | [_, _], _ => rfl
  have MHd : Meth K C "head" fHd := ⟨aHd, iHd, kHd⟩
  have FCon := fun_mk (st := sCont) lCon cCon kCon
  have bCon := FCon.binds (ps := ["self", "x"]) fun _ _ _ _ _ _ us hl => match us, hl with | [_, _], _ => rfl
  have MCon : Meth K C "__contains__" fCon := ⟨aCon, iCon, kCon⟩
  have FAnd := fun_mk (st := sAnd) lAnd cAnd kAnd
  have bAnd := FAnd.binds (ps := ["self", "other"]) fun _ _ _ _ _ _ us hl => match us, hl with | [_, _], _ => rfl
  have MAnd : Meth K C "__and__" fAnd := ⟨aAnd, iAnd, kAnd⟩
  have FLen := fun_mk (st := sLen) lLen cLen kLen
  have bLen := FLen.binds (ps := ["self"]) fun _ _ _ _ _ _ us hl => match us, hl with | [_], _ => rfl
  have MLen : Meth K C "__len__" fLen := ⟨aLen, iLen, kLen⟩
  have FBoo := fun_mk (st := sBool) lBoo cBoo kBoo
  have bBoo := FBoo.binds (ps := ["self"]) fun _ _ _ _ _ _ us hl => match us, hl with | [_], _ => rfl
  have MBoo : Meth K C "__bool__" fBoo := ⟨aBoo, iBoo, kBoo⟩
  have FEq := fun_mk (st := sEq) lEq cEq kEq
  have bEq := FEq.binds (ps := ["self", "other"]) fun _ _ _ _ _ _ us hl => match us, hl with | [_, _], _ => rfl
  have MEq : Meth K C "__eq__" fEq := ⟨aEq, iEq, kEq⟩
  have FAhd := fun_mk (st := sAhead) lAhd cAhd kAhd
  have bAhd := FAhd.binds (ps := ["self", "b"]) fun _ _ _ _ _ _ us hl => match us, hl with | [_, _], _ => rfl
  have MAhd : Meth K C "is_ahead" fAhd := ⟨aAhd, iAhd, kAhd⟩
  have T : BT mg := ⟨PySem.W.mg_none_of X G zisi, PySem.W.mg_none_of X G zint, PySem.W.mg_none_of X G zbool, PySem.W.mg_none_of X G zstr, PySem.W.mg_none_of X G zlen, PySem.W.mg_none_of X G zall, PySem.W.mg_none_of X G zzip, PySem.W.mg_none_of X G zrange, PySem.W.mg_none_of X G zenum, PySem.W.mg_none_of X G zlist, PySem.W.mg_none_of X G zabs⟩
  have TG : GT mg := ⟨T, ⟨_, PySem.W.mg_of X G lg⟩⟩
  have U : CT K mg C (.type "type") := ⟨⟨pg, hd, po, sa⟩, nN, PySem.W.mg_of X G aC, ⟨rd, ga⟩, ⟨_, mo, ⟨_, rfl⟩⟩, ⟨_, mi, ⟨_, rfl⟩, ms, by decide +kernel⟩, ha, hn, htk, hm, kit_tyC ty hm rfl, kit_self ty mC, kit_Cty (by decide +kernel) mS⟩
  have MM : Mk K C fIni := ⟨mk, aIni, iIni, kc⟩
  refine ⟨PySem.W.fnOf "law" "law" (defArgs sLaw) (defBody sLaw) (defScope sLaw) .none kVLaw dcLaw pmLaw anLaw cdLaw ctLaw, fun s v => .of_eq rfl, fun base _ _ => ?_⟩
  have GMk : FnR l.prog w K mg base CX0 2 fIni (spMk C) := ok_init FIni TG U FNam bNam mNam
  have GNms : FnOk l.prog w K mg base CX0 1 fNms _ ["self"] (spNames C) := ok_names FNms U
  have GLen : FnOk l.prog w K mg base CX0 1 fLen _ ["self"] (spLen C) := ok_len FLen T U
  have GBoo : FnOk l.prog w K mg base CX0 1 fBoo _ ["self"] (spBool C) := ok_bool FBoo T U
  have GEq : FnOk l.prog w K mg base CX0 1 fEq _ ["self", "other"] (spEq C) := ok_eq FEq T U
  have GTxt : FnOk l.prog w K mg base CX0 1 fTxt _ ["self"] (spText C) := ok_text FTxt U
  have GHd : FnOk l.prog w K mg base CX0 4 fHd _ ["self", "k"] (spHead C) := ok_head FHd T U FInt bInt mInt MM GMk
  have GUp : FnOk l.prog w K mg base CX0 5 fUp _ ["self"] (spUp C) := ok_up FUp T U GHd bHd MHd
  have GAdd : FnOk l.prog w K mg base CX0 4 fAdd _ ["self", "other"] (spAdd C) := ok_add FAdd U MM GMk
  have GPTx : FnOk l.prog w K mg base CX0 2 fPTx _ ["value"] (spPText K) := ok_ptext FPTx TG U FNam bNam mNam
  have GIsP : FnOk l.prog w K mg base CX0 3 fIsP _ ["value"] (spIsPlace C) := ok_isPlace FIsP TG U GPTx kPTx bPTx mPTx
  have GRd : FnOk l.prog w K mg base CX0 4 fRd _ ["cls", "text"] (spRead C) := ok_read FRd TG U GPTx kPTx bPTx mPTx MM GMk
  have GAnd : FnOk l.prog w K mg base CX0 5 fAnd _ ["self", "other"] (spAnd C) := ok_and FAnd T U GHd bHd MHd FNms bNms MNms
  have GCon : FnOk l.prog w K mg base CX0 4 fCon _ ["self", "x"] (spCont C) := ok_cont FCon TG U GIsP kIsP bIsP mIsP FOf bOf MOf FNms bNms MNms
  have GAhd : FnOk l.prog w K mg base CX0 3 fAhd _ ["self", "b"] (spAhead C) := ok_ahead FAhd T U FNms bNms MNms
  have GDrw : FnOk l.prog w K mg base CX0 1 fDrw _ ["_law_pen_here", "_law_many"] spDraw := ok_draw FDrw T
  have GPck : FnOk l.prog w K mg base CX0 2 fPck _ ["_law_pen_here", "_law_some"] spPick := ok_pick FPck T FDrw bDrw mDrw
  have GPen : FnOk l.prog w K mg base CX0 1 fPen _ ["_law_script"] (spPen K) := ok_pen FPen T
  have W : Wo l.prog w K mg base ⟨C, fAdd, fAnd, fCon, fLen, fBoo, fEq, fAhd, fHd, fUp, pUp, fNms, pNms, fTxt, pTxt, fRd, pRd, fIni, fDrw, fPck, fPen, .type "type", _, _, _, _, _, _, _, _⟩ :=
    ⟨TG, U, sf, nE, sub, MAdd, fnR_of GAdd bAdd, MAnd, fnR_of GAnd bAnd, MCon, fnR_of GCon bCon, MLen, fnR_of GLen bLen, MBoo, fnR_of GBoo bBoo, MEq, fnR_of GEq bEq, MAhd, GAhd, bAhd, MHd, GHd, bHd,
      fun s u v _ => .of_eq rfl, MUp, GUp, bUp, MNms, GNms, bNms, MTxt, GTxt, bTxt, MRd, fnR_of GRd bRd, MM, GMk, mDrw, kDrw, GDrw, bDrw, mPck, kPck, GPck, bPck, mPen, kPen, GPen, bPen⟩
  have GW : FnOk l.prog w K mg base CX0 7 fWay _ ["_law_here"] (spWay C) := ok_way W FWay
  exact ok_law W FLaw (ok_lplace W FLPl) mLPl kLPl bLPl (ok_wr W FWR GW mWay kWay bWay) mWR kWR bWR (ok_mr W FMR GW mWay kWay bWay) mMR kMR bMR
theorem walk {l : PySem.W.OpenLaw} {q : Program} {loose : List Str} {XP : (Str → Option Value) → Heap → Prop} {YP : World → Heap → Prop} {d : DefRec} {K : Params → PySem.W.Frag} (hn : l.most = some 63) (hdf : d.params.defaults = [])
    (hY : ∀ (w : World) (h : Heap), YP w h → (K w.params).In h)
    (F : ∀ (w : World) (mg : Str → Option Value) (fa : Addr) (h : Heap), (K w.params).In h → h.Ns mainGlobals mg → mg d.name = some (.ref fa) →
      ∃ fd : FuncData, (∀ (s : Shared) (u : Value), BindsTo s fd ⟨[u], []⟩ [("_law_script", u)]) ∧ ∀ base : Heap, (K w.params).In base → base.Ns mainGlobals mg → FnOk l.prog w (K w.params) mg base CX0 9 fa fd ["_law_script"] (spLaw (K w.params))) :
    PySem.W.WalkO q loose XP YP l.row.toRowW d [] (fun f vs => PySem.call f vs) :=
  L2.walk_of (n := 63) (k := 9) (x := "_law_script") (CX := fun _ => CX0) (sp := fun w => spLaw (K w.params)) hn (by decide) hdf ⟨rfl, by decide, by decide⟩ hY F (fun _ _ a ns hl _ hS => ⟨a, ns, rfl, hS, hl, fun _ => rfl⟩) fun _ _ _ _ _ z => z
end Pl

open PySem PySem.W PyProof.Rows
set_option maxRecDepth 100000 in
set_option maxHeartbeats 0 in
theorem PySem.Challenge.cw_nearestsays_k05_whole_places_meet_holds : PySem.Challenge.rw_nearestsays_k05_whole_places_meet.Holds := by
  w_on; o_law; k_head; (case hw => w_witness2)
  k_fill
  refine Pl.walk (l := PySem.Challenge.rw_nearestsays_k05_whole_places_meet) rfl rfl (fun w h Y => PySem.W.kIn_of Y) ?F
  case F =>
    intro w mg fa h KX G hmg
    refine' Pl.all_mk KX G hmg ?aInt ?lInt ?cInt ?kInt ?aNam ?lNam ?cNam ?kNam ?aPTx ?lPTx ?cPTx ?kPTx ?aIsP ?lIsP ?cIsP ?kIsP ?aPen ?lPen ?cPen ?kPen ?aDrw ?lDrw ?cDrw ?kDrw ?aPck ?lPck ?cPck ?kPck ?aLPl ?lLPl ?cLPl ?kLPl ?aWay ?lWay ?cWay ?kWay ?aWR ?lWR ?cWR ?kWR ?aMR ?lMR ?cMR ?kMR ?aLaw ?lLaw ?cLaw ?kLaw ?lIni ?cIni ?kIni ?aIni ?iIni ?lRd ?cRd ?kRd ?aRd ?rRd ?iRd ?lOf ?cOf ?kOf ?aOf ?rOf ?lNms ?cNms ?kNms ?aNms ?gNms ?tNms ?rNms ?lTxt ?cTxt ?kTxt ?aTxt ?gTxt ?tTxt ?rTxt ?lUp ?cUp ?kUp ?aUp ?gUp ?tUp ?rUp ?lAdd ?cAdd ?kAdd ?aAdd ?iAdd ?lHd ?cHd ?kHd ?aHd ?iHd ?lCon ?cCon ?kCon ?aCon ?iCon ?lAnd ?cAnd ?kAnd ?aAnd ?iAnd ?lLen ?cLen ?kLen ?aLen ?iLen ?lBoo ?cBoo ?kBoo ?aBoo ?iBoo ?lEq ?cEq ?kEq ?aEq ?iEq ?lAhd ?cAhd ?kAhd ?aAhd ?iAhd ?aC ?pg ?hd ?po ?sa ?mk ?kc ?nN ?rd ?ga ?mo ?mi ?ms ?ha ?hn ?htk ?hm ?ty ?mC ?mS ?sf ?nE ?sub ?lg ?zisi ?zint ?zbool ?zstr ?zlen ?zall ?zzip ?zrange ?zenum ?zlist ?zabs
    (case aC => k_is); (case aInt => k_is); (case aNam => k_is); (case aPTx => k_is); (case aIsP => k_is); (case aPen => k_is); (case aDrw => k_is); (case aPck => k_is)
    (case aLPl => k_is); (case aWay => k_is); (case aWR => k_is); (case aMR => k_is); (case aLaw => k_is); (case aIni => k_is); (case aRd => k_is); (case aOf => k_is)
    (case aNms => k_is); (case aTxt => k_is); (case aUp => k_is); (case aAdd => k_is); (case aHd => k_is); (case aCon => k_is); (case aAnd => k_is); (case aLen => k_is)
    (case aBoo => k_is); (case aEq => k_is); (case aAhd => k_is); (case rRd => k_is); (case rOf => k_is); (case rNms => k_is); (case rTxt => k_is); (case rUp => k_is)
    (case mo => k_is); (case lg => k_is); (case lInt => k_is); (case lNam => k_is); (case lPTx => k_is); (case lIsP => k_is); (case lPen => k_is)
    (case lDrw => k_is); (case lPck => k_is); (case lLPl => k_is); (case lWay => k_is); (case lWR => k_is); (case lMR => k_is); (case lLaw => k_is); (case lIni => k_is)
    (case lRd => k_is); (case lOf => k_is); (case lNms => k_is); (case lTxt => k_is); (case lUp => k_is); (case lAdd => k_is); (case lHd => k_is); (case lCon => k_is)
    (case lAnd => k_is); (case lLen => k_is); (case lBoo => k_is); (case lEq => k_is); (case lAhd => k_is); (case cInt => k_is); (case kInt => k_is); (case cNam => k_is)
    (case kNam => k_is); (case cPTx => k_is); (case kPTx => k_is); (case cIsP => k_is); (case kIsP => k_is); (case cPen => k_is); (case kPen => k_is); (case cDrw => k_is)
    (case kDrw => k_is); (case cPck => k_is); (case kPck => k_is); (case cLPl => k_is); (case kLPl => k_is); (case cWay => k_is); (case kWay => k_is); (case cWR => k_is)
    (case kWR => k_is); (case cMR => k_is); (case kMR => k_is); (case cLaw => k_is); (case kLaw => k_is); (case cIni => k_is); (case kIni => k_is); (case iIni => k_is)
    (case cRd => k_is); (case kRd => k_is); (case iRd => k_is); (case cOf => k_is); (case kOf => k_is); (case cNms => k_is); (case kNms => k_is); (case gNms => k_is)
    (case tNms => k_is); (case cTxt => k_is); (case kTxt => k_is); (case gTxt => k_is); (case tTxt => k_is); (case cUp => k_is); (case kUp => k_is); (case gUp => k_is)
    (case tUp => k_is); (case cAdd => k_is); (case kAdd => k_is); (case iAdd => k_is); (case cHd => k_is); (case kHd => k_is); (case iHd => k_is); (case cCon => k_is)
    (case kCon => k_is); (case iCon => k_is); (case cAnd => k_is); (case kAnd => k_is); (case iAnd => k_is); (case cLen => k_is); (case kLen => k_is); (case iLen => k_is)
    (case cBoo => k_is); (case kBoo => k_is); (case iBoo => k_is); (case cEq => k_is); (case kEq => k_is); (case iEq => k_is); (case cAhd => k_is); (case kAhd => k_is)
    (case iAhd => k_is); (case pg => k_is); (case hd => k_is); (case po => k_is); (case sa => k_is); (case mk => k_is); (case kc => k_is); (case nN => k_is)
    (case rd => k_is); (case ga => k_is); (case mi => k_is); (case ms => k_is); (case ha => k_is); (case hn => k_is); (case htk => k_is); (case hm => k_is)
    (case ty => k_is); (case mC => k_is); (case mS => k_is); (case sf => k_is); (case nE => k_is); (case sub => k_is); (case zisi => k_is); (case zint => k_is)
    (case zbool => k_is); (case zstr => k_is); (case zlen => k_is); (case zall => k_is); (case zzip => k_is); (case zrange => k_is); (case zenum => k_is); (case zlist => k_is)
    (case zabs => k_is)
