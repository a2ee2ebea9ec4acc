import PyProof.Rows.All
import Wide.All
import OpenK.AllK
import Wide.FinOn
import HandS.ForMost
import HandS.IsInst
import HandS.Defaults
import HandS.StrMore
import HandS.Flow
import HandS.Codes
import HandS.EndBits
import HandS.Walk
import HandS.Replace
import HandS.Star
import HandS.TupLe
import HandS.ForExc
import HandS.TryMany
import HandS.ExcIs
import HandS.ExcField
import KE.OsGo
import KE.KExcIs
import HandS.Deep
import PyProof.EqKinds
import HandS.ReplaceDef
import HandS.ReplaceLit
import HandS.ReplaceList
import PyProof.P3In
import HandS.TupAny
import PySem.Challenge.RW_filerights_k86_texts_of_goals
set_option Elab.async false
set_option linter.all false
set_option maxRecDepth 100000
/-! own lemmas over the hand layer: what a def's body holds of the heap -/
namespace FR
open PySem PySem.Spec PyProof.Rows L2 TL
/-- all that was tracked, other than at M, is as it was -/
def Keep (M : List Addr) (H H' : Hp) : Prop := ∀ b o, H b = some o → b ∉ M → H' b = some o
theorem Keep.refl {M : List Addr} {H : Hp} : Keep M H H := fun _ _ h _ => h
theorem Keep.same {H H' : Hp} (k : Keep [] H H') : Same H H' := fun b o h => k b o h (by simp)
theorem Keep.of_same {H H' : Hp} (k : Same H H') : Keep [] H H' := fun b o h _ => k b o h
theorem Keep.free {H H' : Hp} (k : Keep [] H H') {p : Addr} (h : H' p = none) : H p = none := k.same.free h
/-- a body's heap: H0 at its entry, M what it may change, L what it holds -/
structure Ow (H0 : Hp) (M : List Addr) (H : Hp) (L : List (Addr × HO)) : Prop where
  keep : ∀ b o, H0 b = some o → b ∉ M → H b = some o
  has : ∀ p ∈ L, H p.1 = some p.2
  nd : (L.map (·.1)).Nodup
  fr : ∀ p ∈ L, H0 p.1 = none ∨ p.1 ∈ M
section
variable {H0 H H' : Hp} {M : List Addr} {L : List (Addr × HO)} {a p : Addr} {o o' : HO} {K : PySem.W.Frag} {xs : List V}
theorem Ow.start0 : Ow H [] H [] := ⟨fun _ _ h _ => h, fun _ h => by simp at h, by simp, fun _ h => by simp at h⟩
theorem Ow.start1 (h : H a = some o) : Ow H [a] H [(a, o)] := ⟨fun _ _ h _ => h, fun p hp => by simp at hp; subst hp; exact h, by simp, fun p hp => by simp at hp; subst hp; exact .inr (by simp)⟩
theorem Ow.get (W : Ow H0 M H L) (i : Nat) (e : L[i]? = some (a, o)) : H a = some o := W.has _ (List.mem_of_getElem? e)
theorem Ow.new (W : Ow H0 M H L) (h : H p = none) : Ow H0 M (upd H p o) ((p, o) :: L) where
  keep := fun b u e hb => by
    rw [upd_ne (ne_of_none (W.keep b u e hb) h)]
    exact W.keep b u e hb
  has := fun q hq => by
    rcases List.mem_cons.mp hq with rfl | hq
    · exact upd_same
    · rw [upd_ne (ne_of_none (W.has q hq) h)]
      exact W.has q hq
  nd := by
    rw [List.map_cons, List.nodup_cons]
    refine ⟨fun hm => ?_, W.nd⟩
    obtain ⟨q, hq, e⟩ := List.mem_map.mp hm
    have := W.has q hq
    rw [show q.1 = p from e, h] at this
    cases this
  fr := fun q hq => by
    rcases List.mem_cons.mp hq with rfl | hq
    · by_cases hm : p ∈ M
      · exact .inr hm
      · cases e : H0 p with
        | none => exact .inl rfl
        | some u =>
          have := W.keep p u e hm
          rw [h] at this
          cases this
    · exact W.fr q hq
theorem nd_of {α β : Type} [DecidableEq α] : ∀ {L : List (α × β)} {i : Nat} {x : α × β} {q : α × β}, (L.map (·.1)).Nodup → L[i]? = some x → q ∈ L → q.1 = x.1 → q = x
  | [], i, x, q, _, e, _, _ => by simp at e
  | y :: L, 0, x, q, hn, e, hq, h => by
    have e' : y = x := Option.some.inj e
    subst e'
    rcases List.mem_cons.mp hq with r | hq
    · exact r
    · rw [List.map_cons, List.nodup_cons] at hn
      exact absurd (List.mem_map.mpr ⟨q, hq, h⟩) hn.1
  | y :: L, i + 1, x, q, hn, e, hq, h => by
    rw [List.map_cons, List.nodup_cons] at hn
    have e' : L[i]? = some x := e
    rcases List.mem_cons.mp hq with r | hq
    · subst r
      exact absurd (List.mem_map.mpr ⟨x, List.mem_of_getElem? e', h.symm⟩) hn.1
    · exact nd_of hn.2 e' hq h
theorem map_set_fst {α β : Type} : ∀ {L : List (α × β)} {i : Nat} {a : α} {o o' : β}, L[i]? = some (a, o) → (L.set i (a, o')).map (·.1) = L.map (·.1)
  | [], i, a, o, o', e => by simp at e
  | y :: L, 0, a, o, o', e => by
    have e' : y = (a, o) := Option.some.inj e
    subst e'
    rfl
  | y :: L, i + 1, a, o, o', e => by
    have e' : L[i]? = some (a, o) := e
    rw [List.set_cons_succ, List.map_cons, List.map_cons, map_set_fst e']
theorem Ow.any1 (W : Ow H0 M H L) (i : Nat) (e : L[i]? = some (a, o)) (k : Keep [a] H H') (h : H' a = some o') : Ow H0 M H' (L.set i (a, o')) where
  keep := fun b u eb hb => by
    have z := W.keep b u eb hb
    refine k b u z ?_
    intro hm
    have hm' : b = a := by simpa using hm
    subst hm'
    rcases W.fr _ (List.mem_of_getElem? e) with r | r
    · rw [show (b, o).1 = b from rfl, eb] at r; cases r
    · exact hb r
  has := fun q hq => by
    rcases List.mem_or_eq_of_mem_set hq with hq | rfl
    · by_cases ha : q.1 = a
      · have := nd_of (q := q) (by rw [map_set_fst (o' := o') e]; exact W.nd) (show (L.set i (a, o'))[i]? = some (a, o') by
          have hi : i < L.length := (List.getElem?_eq_some_iff.mp e).1
          rw [List.getElem?_set_self hi]) (by assumption) ha
        subst this
        exact h
      · exact k _ _ (W.has q hq) (by simpa using ha)
    · exact h
  nd := by rw [map_set_fst e]; exact W.nd
  fr := fun q hq => by
    rcases List.mem_or_eq_of_mem_set hq with hq | rfl
    · exact W.fr q hq
    · exact (W.fr (a, o) (List.mem_of_getElem? e) : H0 a = none ∨ a ∈ M)
theorem keep_upd {H : Hp} {a : Addr} {o : HO} : Keep [a] H (upd H a o) := fun b u e hb => by
  rw [upd_ne (by simpa using hb)]
  exact e
theorem Ow.set (W : Ow H0 M H L) (i : Nat) (e : L[i]? = some (a, o)) : Ow H0 M (upd H a o') (L.set i (a, o')) := W.any1 i e keep_upd upd_same
/-- a call that changed nothing -/
theorem Ow.call0 (W : Ow H0 M H L) (k : Keep [] H H') : Ow H0 M H' L where
  keep := fun b u e hb => k b u (W.keep b u e hb) (by simp)
  has := fun q hq => k _ _ (W.has q hq) (by simp)
  nd := W.nd
  fr := W.fr
/-- .. and handed back a new object -/
theorem Ow.res (W : Ow H0 M H L) (W' : Ow H0 M H' L) (hp : H p = none) (h : H' p = some o) : Ow H0 M H' ((p, o) :: L) where
  keep := W'.keep
  has := fun q hq => by
    rcases List.mem_cons.mp hq with rfl | hq
    · exact h
    · exact W'.has q hq
  nd := by
    rw [List.map_cons, List.nodup_cons]
    refine ⟨fun hm => ?_, W.nd⟩
    obtain ⟨q, hq, e⟩ := List.mem_map.mp hm
    have := W.has q hq
    rw [show q.1 = p from e, hp] at this
    cases this
  fr := fun q hq => by
    rcases List.mem_cons.mp hq with rfl | hq
    · by_cases hm : p ∈ M
      · exact .inr hm
      · cases e : H0 p with
        | none => exact .inl rfl
        | some u =>
          have := W.keep p u e hm
          rw [hp] at this
          cases this
    · exact W.fr q hq
theorem Ow.tail {q : Addr × HO} (W : Ow H0 M H (q :: L)) : Ow H0 M H L := ⟨W.keep, fun p hp => W.has p (List.mem_cons_of_mem _ hp), (List.nodup_cons.mp W.nd).2, fun p hp => W.fr p (List.mem_cons_of_mem _ hp)⟩
theorem Ow.drop (W : Ow H0 M H L) : Ow H0 M H [] := ⟨W.keep, fun _ h => by simp at h, by simp, fun _ h => by simp at h⟩
theorem Ow.seq (W : Ow H0 M H L) (h : SqL K H0 a xs) (ha : a ∉ M) : SqL K H a xs := by
  rcases h with (h | ⟨o, h⟩) | h
  · exact .inl (.inl (W.keep _ _ h ha))
  · exact .inl (.inr ⟨o, W.keep _ _ h ha⟩)
  · exact .inr h
theorem Ow.sq (W : Ow H0 M H L) (i : Nat) (e : L[i]? = some (a, .lst xs)) : SqL K H a xs := .inl (.inl (W.get i e))
theorem Ow.sqT (W : Ow H0 M H L) (i : Nat) (e : L[i]? = some (a, .tup xs)) : SqT K H a xs := .inl (.inl (W.get i e))
end
/-! ### objects that are made or changed: the heap behind is told by what it keeps -/
structure NewO (o : HO) (Q : VK) (H : Hp) : Prop where
  to : ∀ (p : Addr) (H' : Hp), H p = none → Keep [] H H' → H' p = some o → Q (.ref p) H'
structure MutO (a : Addr) (o : HO) (Q : Hp → Prop) (H : Hp) : Prop where
  to : ∀ H' : Hp, Keep [a] H H' → H' a = some o → Q H'
theorem keep_new {H : Hp} {p : Addr} {o : HO} (np : H p = none) : Keep [] H (upd H p o) := fun b u e _ => by
  rw [upd_ne (ne_of_none e np)]
  exact e
theorem NewO.all {o : HO} {Q : VK} {H : Hp} (h : NewO o Q H) : ∀ p, H p = none → Q (.ref p) (upd H p o) := fun p np => h.to p _ np (keep_new np) upd_same
theorem MutO.at {a : Addr} {o : HO} {Q : Hp → Prop} {H : Hp} (h : MutO a o Q H) : Q (upd H a o) := h.to _ keep_upd upd_same
section
variable {H0 H H' : Hp} {M : List Addr} {L : List (Addr × HO)} {a p : Addr} {o o' : HO} {G : Prop}
theorem with1 (i : Nat) (W : Ow H0 M H L) (e : L[i]? = some (a, o)) (k : Keep [a] H H') (h : H' a = some o') (g : Ow H0 M H' (L.set i (a, o')) → G) : G := g (W.any1 i e k h)
theorem withN (W : Ow H0 M H L) (np : H p = none) (k : Keep [] H H') (h : H' p = some o) (g : Ow H0 M H' ((p, o) :: L) → G) : G := g (W.res (W.call0 k) np h)
theorem with0 (W : Ow H0 M H L) (k : Keep [] H H') (g : Ow H0 M H' L → G) : G := g (W.call0 k)
end
section
variable {X : Cx} {e : Expr} {es : List Expr} {t t' : TE} {ta : TA} {pos : Pos} {K : PySem.W.Frag}
def mA (t : TA) : TA := fun σ H Q => ∃ Q0, t σ H Q0 ∧ ∀ xs H', Q0 xs H' → Q xs H'
theorem pa_m (h : PA X es ta) : PA X es (mA ta) := ⟨fun pos pins s σ H Q I hq => by
  obtain ⟨Q0, h0, hi⟩ := hq
  exact thn (h.run pos pins s σ H Q0 I h0) fun us s1 ⟨xs, H1, I1, r, q⟩ => ⟨xs, H1, I1, r, hi _ _ q⟩⟩
theorem pe_imp (h : PE X e t) (k : ∀ σ H Q, t' σ H Q → t σ H Q) : PE X e t' := ⟨fun pins s σ H Q I q => h.run pins s σ H Q I (k σ H Q q)⟩
def tLstN (t : TA) : TE := fun σ H Q => t σ H fun xs H1 => xs.length ≤ sizeLine ∧ NewO (.lst xs) Q H1
def tTupN (t : TA) : TE := fun σ H Q => t σ H fun xs H1 => xs.length ≤ sizeLine ∧ NewO (.tup xs) Q H1
theorem pe_lstN (h : PA X es ta) : PE X (.List es pos) (tLstN ta) := pe_imp (pe_lst (pa_m h)) fun σ H Q q => ⟨_, q, fun xs H1 z => ⟨z.1, z.2.all⟩⟩
theorem pe_tupN {x1} (h : PA X es ta) : PE X (.Tuple es x1 pos) (tTupN ta) := pe_imp (pe_tup (pa_m h)) fun σ H Q q => ⟨_, q, fun xs H1 z => ⟨z.1, z.2.all⟩⟩
theorem pe_dnewN : PE X (.Dict [] [] pos) (fun _ H Q => NewO (.dK []) Q H) := pe_imp pe_dnewK fun σ H Q q => q.all
def rSetN : V → V → V → Hp → (Hp → Prop) → Prop := fun o i v H Q => ∃ p xs k j, o = .ref p ∧ i = .int k ∧ H p = some (.lst xs) ∧ ixN xs.length k = some j ∧ MutO p (.lst (xs.set j v)) Q H
theorem set_listN : PSet X rSetN := fun pins s σ H o i v ov iv u Q I ro ri rv h => by
  obtain ⟨p, xs, k, j, e1, e2, hp, hj, q⟩ := h
  exact set_list pins s σ H o i v ov iv u Q I ro ri rv ⟨p, xs, k, j, e1, e2, hp, hj, q.at⟩
def rSlN (K : PySem.W.Frag) : V → Option Int → Option Int → Hp → VK → Prop := fun x lo hi H Q => ∃ a xs, x = .ref a ∧ SqL K H a xs ∧ NewO (.lst (cutV xs lo hi)) Q H
theorem sl_listN : SlR X (rSlN X.K) := fun pins s σ H x v vl vu lo hi sl Q I rx hs pl pu h => by
  obtain ⟨a, xs, e, hx, q⟩ := h
  exact sl_list pins s σ H x v vl vu lo hi sl Q I rx hs pl pu ⟨a, xs, e, hx, q.all⟩
def rCatN : R2 := fun x y H Q => ∃ l b xs zs, x = .ref l ∧ y = .ref b ∧ H l = some (.lst xs) ∧ H b = some (.lst zs) ∧ xs.length + zs.length ≤ sizeLine ∧ NewO (.lst (xs ++ zs)) Q H
theorem op_catN : OpR X (binaryOp .Add) rCatN := fun pins s σ H x y v u Q I rx ry h => by
  obtain ⟨l, b, xs, zs, e1, e2, hl, hb, hz, q⟩ := h
  exact op_cat pins s σ H x y v u Q I rx ry ⟨l, b, xs, zs, e1, e2, hl, hb, hz, q.all⟩
def rAppN : V → List V → Hp → VK → Prop := fun x vs H Q => ∃ l xs y, x = .ref l ∧ vs = [y] ∧ H l = some (.lst xs) ∧ xs.length < sizeLine ∧ MutO l (.lst (xs ++ [y])) (Q .non) H
theorem mt_appN : MtR X "list.append" rAppN := fun pins s σ H x xs v us Q I rx rv h => by
  obtain ⟨l, ys, y, e1, e2, hl, hz, q⟩ := h
  exact mt_append pins s σ H x xs v us Q I rx rv ⟨l, ys, y, e1, e2, hl, hz, q.at⟩
def rSplN : V → List V → Hp → VK → Prop := fun x xs H Q => ∃ a b, x = .str a ∧ xs = [.str b] ∧ (b.length == 0) = false ∧ a.length + 2 ≤ sizeLine ∧ NewO (.lst ((Txt.split a b).map V.str)) Q H
theorem mt_splN : MtR X "str.split" rSplN := fun pins s σ H x xs v us Q I rx rv h => by
  obtain ⟨a, b, e1, e2, h1, h2, q⟩ := h
  exact mt_split pins s σ H x xs v us Q I rx rv ⟨a, b, e1, e2, h1, h2, q.all⟩
def rLofN (K : PySem.W.Frag) : List V → Hp → VK → Prop := fun xs H Q => ∃ p ys, xs = [.ref p] ∧ (SqL K H p ys ∨ SqT K H p ys) ∧ NewO (.lst ys) Q H
theorem call_lofN : CallR X (.type "list") (rLofN X.K) := fun pins s σ H xs us Q I r h => by
  obtain ⟨p, ys, e, hs, q⟩ := h
  exact call_list_of pins s σ H xs us Q I r ⟨p, ys, e, hs, q.all⟩
end
/-! ### calls with keywords of a def without defaults by place -/
section
variable {K : PySem.W.Frag} {x qual : Str} {params : Arguments} {body : List Stmt} {scope : Scope} {kws : List (Str × V)} {f : Addr} {fd : FuncData} {ps : List Str}
theorem kb0 (F : FunD K x qual params body scope [] kws f fd) (n : Nat) (ks : List Str) (ms : List (Str × V)) (g : {α : Type} → List α → List α → List α → List α) (hk : kws ≠ []) (hms : ∀ q ∈ ms, q ∈ kws)
    (hrel : ∀ {vs mz zs : List V} {us mv ws : List Value}, Vals vs us → Vals mz mv → Vals zs ws → Vals (g vs mz zs) (g us mv ws))
    (h : ∀ (D : Addr) (doc pm : Value) (an : Option Addr) (cdv ct : Value) (us mv ws : List Value), us.length = n → mv.length = ms.length → ws.length = ks.length →
      KwChain D ((ms.map (·.1)).zip mv) (bindArgs (PySem.W.fnOf x qual params body scope .none (.ref D) doc pm an cdv ct) ⟨us, ks.zip ws⟩) (ps.zip (g us mv ws))) :
    ∃ mv : List Value, KBn K fd ps n ks (fun us ws => g us mv ws) (fun vs zs => g vs (ms.map (·.2)) zs) := by
  obtain ⟨oc, od, dV, kV, doc, pm, an, cdv, ct, osl, rfl, lk, hcd, hD, hK⟩ := F.ex
  rcases hD with ⟨_, rfl⟩ | ⟨e, _⟩
  · rcases hK with e | ⟨D, rfl, hq⟩
    · exact absurd e hk
    · obtain ⟨mv, hl, rk, hks⟩ := kwd_vals (ms := ms) fun q hm => hq q (hms q hm)
      exact ⟨mv, fun s us ws X l1 l2 => BindsTo.of_looks fun M => KwChain.looks X hks (h D doc pm an cdv ct us mv ws l1 hl l2), fun r1 r2 => hrel r1 rk r2⟩
  · exact absurd rfl e
end
section
variable {X : Cx} {CX : CXT} {k : Nat} {f : Addr} {fd : FuncData} {ps ks : List Str} {sp : Sp} {E : XK} {x : Str} {p pos : Pos} {kws : List Keyword} {tk : TA} {g : List Value → List Value → List Value} {gV : List V → List V → List V}
theorem pe_callN0 (F : FnOk X.prog X.w X.K X.mg X.base CX k f fd ps sp) (hr : Room k X.A) (hg : Gl X x) (hm : X.mg x = some (.ref f)) (hk : PySem.W.keepIn X.K (.ref f) = true) (hb : KBn X.K fd ps 0 ks g gV) (hx : Passes CX X E) (hkw : PK X kws tk)
    (hall : (backToKw pos (keywordEach kws X.env)).all (·.1.isSome) = true := by rfl) (hks : (backToKw pos (keywordEach kws X.env)).filterMap (·.1) = ks := by rfl) (hdb : (x == ("__debug__" : Str)) = false := by decide)
    (hpl : ((backTo pos (starEach [] X.env)).any (·.1) || (backToKw pos (keywordEach kws X.env)).any (·.1.isNone)) = false := by rfl) : PE X (.Call (.Name x p) [] kws pos) (tCallN 0 ks.length sp gV E tNil tk) := ⟨fun pins s σ H Q I h => by
  refine wpAny_Call_Name_kw (ld_glob I hg hm (PySem.W.callWith_KW0 (h₀ := X.base) I.ok.mod.kin hk hall ?_ hpl) hdb)
  refine thn (hkw.run pos pins s σ H _ I h) fun ws s2 hz => ?_
  obtain ⟨zs, H2, I2, rz, l1, l2, q2⟩ := hz
  refine ⟨I2.kIn, ?_⟩
  rw [hks]
  exact run_fnN (us := []) (vs := []) F hr hb hx I2 .nil rz rfl l2 q2⟩
end
/-! ### tests -/
section
variable {A B : Prop}
theorem ifT {b : Bool} (h : b = true) (a : A) : if b = true then A else B := by rw [if_pos h]; exact a
theorem ifF {b : Bool} (h : b = false) (a : B) : if b = true then A else B := by rw [h, if_neg Bool.false_ne_true]; exact a
theorem ifB {b : Bool} (h1 : b = true → A) (h2 : b = false → B) : if b = true then A else B := by
  cases b
  · exact ifF rfl (h2 rfl)
  · exact ifT rfl (h1 rfl)
theorem ifNB {b : Bool} (h1 : b = false → A) (h2 : b = true → B) : if (!b) = true then A else B := by
  cases b
  · exact ifT rfl (h1 rfl)
  · exact ifF rfl (h2 rfl)
theorem ifD {p : Prop} [Decidable p] (h1 : p → A) (h2 : ¬ p → B) : if decide p = true then A else B := by
  by_cases h : p
  · exact ifT (decide_eq_true h) (h1 h)
  · exact ifF (decide_eq_false h) (h2 h)
theorem ifN {p : Prop} [Decidable p] (h1 : ¬ p → A) (h2 : p → B) : if (!decide p) = true then A else B := by
  by_cases h : p
  · exact ifF (by rw [decide_eq_true h]; rfl) (h2 h)
  · exact ifT (by rw [decide_eq_false h]; rfl) (h1 h)
theorem ifQ {b : Bool} {p : Prop} [Decidable p] (h : b = decide p) (h1 : p → A) (h2 : ¬ p → B) : if b = true then A else B := by
  rw [h]
  exact ifD h1 h2
theorem ifVI {i j : Int} (h1 : i = j → A) (h2 : i ≠ j → B) : if decide (V.int i = V.int j) = true then A else B := ifD (fun h => h1 (V.int.inj h)) fun h => h2 fun e => h (by rw [e])
theorem ifVIn {i j : Int} (h1 : i ≠ j → A) (h2 : i = j → B) : if (!decide (V.int i = V.int j)) = true then A else B := ifN (fun h => h1 fun e => h (by rw [e])) fun h => h2 (V.int.inj h)
theorem ifVS {i j : Str} (h1 : i = j → A) (h2 : i ≠ j → B) : if decide (V.str i = V.str j) = true then A else B := ifD (fun h => h1 (V.str.inj h)) fun h => h2 fun e => h (by rw [e])
theorem ifVSn {i j : Str} (h1 : i ≠ j → A) (h2 : i = j → B) : if (!decide (V.str i = V.str j)) = true then A else B := ifN (fun h => h1 fun e => h (by rw [e])) fun h => h2 (V.str.inj h)
end
/-! ### isinstance -/
theorem isi {K : PySem.W.Frag} {H : Hp} {Q : VK} {x : V} {t c : String} {b : Bool} (ty : TyX K H x (.type t)) (k : kitB t c = some b) (q : Q (.bl b) H) : rIsi K [x, .ty c] H Q := ⟨x, .ty c, .type t, .type c, b, rfl, .ty c, ty, kit_ty k, q⟩
theorem call_isiK {X : Cx} {K : PySem.W.Frag} (h : X.K = K) : CallR X (.builtin "isinstance") (rIsi K) := h ▸ call_isi
theorem ki_int_str : kitB "int" "str" = some false := by decide +kernel
theorem ki_int_int : kitB "int" "int" = some true := by decide +kernel
theorem ki_int_bool : kitB "int" "bool" = some false := by decide +kernel
theorem ki_int_list : kitB "int" "list" = some false := by decide +kernel
theorem ki_int_tuple : kitB "int" "tuple" = some false := by decide +kernel
theorem ki_int_dict : kitB "int" "dict" = some false := by decide +kernel
theorem ki_str_str : kitB "str" "str" = some true := by decide +kernel
theorem ki_str_int : kitB "str" "int" = some false := by decide +kernel
theorem ki_str_bool : kitB "str" "bool" = some false := by decide +kernel
theorem ki_str_list : kitB "str" "list" = some false := by decide +kernel
theorem ki_str_tuple : kitB "str" "tuple" = some false := by decide +kernel
theorem ki_str_dict : kitB "str" "dict" = some false := by decide +kernel
theorem ki_bl_str : kitB "bool" "str" = some false := by decide +kernel
theorem ki_bl_int : kitB "bool" "int" = some true := by decide +kernel
theorem ki_bl_bool : kitB "bool" "bool" = some true := by decide +kernel
theorem ki_bl_list : kitB "bool" "list" = some false := by decide +kernel
theorem ki_bl_tuple : kitB "bool" "tuple" = some false := by decide +kernel
theorem ki_bl_dict : kitB "bool" "dict" = some false := by decide +kernel
theorem ki_non_str : kitB "NoneType" "str" = some false := by decide +kernel
theorem ki_non_int : kitB "NoneType" "int" = some false := by decide +kernel
theorem ki_non_bool : kitB "NoneType" "bool" = some false := by decide +kernel
theorem ki_non_list : kitB "NoneType" "list" = some false := by decide +kernel
theorem ki_non_tuple : kitB "NoneType" "tuple" = some false := by decide +kernel
theorem ki_non_dict : kitB "NoneType" "dict" = some false := by decide +kernel
theorem ki_lst_str : kitB "list" "str" = some false := by decide +kernel
theorem ki_lst_int : kitB "list" "int" = some false := by decide +kernel
theorem ki_lst_bool : kitB "list" "bool" = some false := by decide +kernel
theorem ki_lst_list : kitB "list" "list" = some true := by decide +kernel
theorem ki_lst_tuple : kitB "list" "tuple" = some false := by decide +kernel
theorem ki_lst_dict : kitB "list" "dict" = some false := by decide +kernel
theorem ki_tup_str : kitB "tuple" "str" = some false := by decide +kernel
theorem ki_tup_int : kitB "tuple" "int" = some false := by decide +kernel
theorem ki_tup_bool : kitB "tuple" "bool" = some false := by decide +kernel
theorem ki_tup_list : kitB "tuple" "list" = some false := by decide +kernel
theorem ki_tup_tuple : kitB "tuple" "tuple" = some true := by decide +kernel
theorem ki_tup_dict : kitB "tuple" "dict" = some false := by decide +kernel
theorem ki_dK_str : kitB "dict" "str" = some false := by decide +kernel
theorem ki_dK_int : kitB "dict" "int" = some false := by decide +kernel
theorem ki_dK_bool : kitB "dict" "bool" = some false := by decide +kernel
theorem ki_dK_list : kitB "dict" "list" = some false := by decide +kernel
theorem ki_dK_tuple : kitB "dict" "tuple" = some false := by decide +kernel
theorem ki_dK_dict : kitB "dict" "dict" = some true := by decide +kernel
/-- the generator of a law's numbers: at b a list of three numbers, the last at most n -/
def bagO (x y z : Int) : HO := .lst [.int x, .int y, .int z]
structure BagOk (n : Nat) (x y z : Int) : Prop where
  x0 : 0 ≤ x
  y0 : 0 ≤ y
  y1 : y < 2147483648
  z0 : 0 ≤ z
  z1 : z ≤ (n : Int)
theorem BagOk.mono {n m : Nat} {x y z : Int} (h : BagOk n x y z) (e : n ≤ m) : BagOk m x y z := ⟨h.x0, h.y0, h.y1, h.z0, by have := h.z1; omega⟩
/-- take(bag, k): a number below k; the bag is changed, by one count at the most -/
def spTake : Sp := fun vs H Q _ => ∃ (b : Addr) (k : Int) (n : Nat) (x y z : Int), vs = [.ref b, .int k] ∧ H b = some (bagO x y z) ∧ BagOk n x y z ∧ n < 1000000 ∧ 0 < k ∧ k < 1073741824 ∧
  ∀ (d x' y' z' : Int) (H' : Hp), 0 ≤ d → d < k → BagOk (n + 1) x' y' z' → Keep [b] H H' → H' b = some (bagO x' y' z') → Q (.int d) H'
theorem atI_in {α : Type} {xs : List α} {d : Int} (h0 : 0 ≤ d) (h1 : d < (xs.length : Int)) : ∃ v, atI xs d = some v ∧ v ∈ xs := by
  obtain ⟨k, rfl⟩ := Int.eq_ofNat_of_zero_le h0
  have hk : k < xs.length := by omega
  exact ⟨xs[k], atI_nat (List.getElem?_eq_getElem hk), List.getElem_mem hk⟩
theorem size_ok {n : Nat} (h : n ≤ 1000000) : n < sizeLine := Nat.lt_of_le_of_lt h (by decide)
theorem size_le {n : Nat} (h : n ≤ 1000000) : n ≤ sizeLine := Nat.le_of_lt (size_ok h)
/-! ### texts by their codes -/
theorem len_app (x y : Str) : (x ++ y).length = x.length + y.length := by rw [len_tl, len_tl, len_tl, tl_append, List.length_append]
theorem joinL_nil : ∀ ps : List (List Nat), joinL [] ps = ps.flatten
  | [] => rfl
  | [p] => by simp [joinL]
  | p :: q :: r => by
    have ih := joinL_nil (q :: r)
    show p ++ ([] ++ joinL [] (q :: r)) = _
    rw [ih]
    simp
theorem tl_joinE (ss : List Str) : tl (Txt.join (Str.ofString "") ss) = (ss.map tl).flatten := by
  rw [join_eq, tl_join, show tl (Str.ofString "") = [] by decide +kernel, joinL_nil]
theorem sum_one : ∀ {ss : List Str}, (∀ s ∈ ss, s.length = 1) → (ss.map (·.length)).sum = ss.length
  | [], _ => rfl
  | s :: r, h => by
    rw [List.map_cons, List.sum_cons, sum_one fun t ht => h t (List.mem_cons_of_mem _ ht), h s List.mem_cons_self, List.length_cons]
    omega
theorem flat_one : ∀ {ss : List Str}, (∀ s ∈ ss, s.length = 1) → (ss.map tl).flatten.length = ss.length
  | [], _ => rfl
  | s :: r, h => by
    have h1 := h s List.mem_cons_self
    rw [len_tl] at h1
    rw [List.map_cons, List.flatten_cons, List.length_append, flat_one fun t ht => h t (List.mem_cons_of_mem _ ht), List.length_cons, h1]
    omega
theorem join_one {ss : List Str} (h : ∀ s ∈ ss, s.length = 1) : (Txt.join (Str.ofString "") ss).length = ss.length := by rw [len_tl, tl_joinE, flat_one h]
theorem tl_cutS (z : Str) (lo hi : Option Int) : tl (cutS z lo hi) = ((tl z).drop (HT.sIx z.length 0 lo)).take (HT.sIx z.length z.length hi - HT.sIx z.length 0 lo) := rfl
theorem cutS_len (z : Str) (lo hi : Option Int) : (cutS z lo hi).length ≤ z.length := by
  rw [len_tl, tl_cutS, List.length_take, List.length_drop, len_tl z]
  omega
theorem starts_one (x : Str) (c : Nat) : Txt.startswith x ⟨#[c]⟩ = true ↔ (tl x)[0]? = some c := by
  unfold Txt.startswith
  rw [Bool.and_eq_true, decide_eq_true_eq]
  exact PySem.StrLaws.subAt_one x c 0
/-! ### texts of plain signs -/
def Asc (s : Str) : Prop := ∀ c ∈ tl s, c < 128
theorem Asc.app {x y : Str} (a : Asc x) (b : Asc y) : Asc (x ++ y) := fun c hc => by
  rw [tl_append] at hc
  rcases List.mem_append.mp hc with h | h
  · exact a c h
  · exact b c h
theorem Asc.cut {x : Str} (a : Asc x) (lo hi : Option Int) : Asc (cutS x lo hi) := fun c hc => a c (List.mem_of_mem_drop (List.mem_of_mem_take (by rw [tl_cutS] at hc; exact hc)))
theorem Asc.one {c : Nat} (h : c < 128) : Asc ⟨#[c]⟩ := fun d hd => by
  have : d = c := by simpa using hd
  omega
theorem Asc.of {x : Str} (h : (tl x).all (fun c => decide (c < 128)) = true) : Asc x := fun c hc => by simpa using List.all_eq_true.mp h c hc
theorem Asc.joined {S : List Nat} : ∀ {ps : List (List Nat)}, (∀ c ∈ S, c < 128) → (∀ p ∈ ps, ∀ c ∈ p, c < 128) → ∀ c ∈ joinL S ps, c < 128
  | [], _, _, c, h => by simp [joinL] at h
  | [p], _, hp, c, h => hp p List.mem_cons_self c h
  | p :: q :: r, hS, hp, c, h => by
    rcases List.mem_append.mp (show c ∈ p ++ (S ++ joinL S (q :: r)) from h) with h | h
    · exact hp p List.mem_cons_self c h
    · rcases List.mem_append.mp h with h | h
      · exact hS c h
      · exact Asc.joined hS (fun t ht => hp t (List.mem_cons_of_mem _ ht)) c h
theorem Asc.join {y : Str} {ss : List Str} (a : Asc y) (h : ∀ s ∈ ss, Asc s) : Asc (Txt.join y ss) := by
  unfold Asc
  rw [join_eq, tl_join]
  refine Asc.joined a fun p hp => ?_
  obtain ⟨s, hs, rfl⟩ := List.mem_map.mp hp
  exact h s hs
theorem joinL_len (S : List Nat) : ∀ (ps : List (List Nat)), (joinL S ps).length ≤ (ps.map (·.length)).sum + ps.length * S.length
  | [] => by simp [joinL]
  | [p] => by simp [joinL]
  | p :: q :: r => by
    have ih := joinL_len S (q :: r)
    show (p ++ (S ++ joinL S (q :: r))).length ≤ _
    rw [List.length_append, List.length_append, List.map_cons, List.sum_cons, List.length_cons, Nat.add_one_mul]
    omega
theorem join_len (y : Str) (ss : List Str) : (Txt.join y ss).length ≤ (ss.map (·.length)).sum + ss.length * y.length := by
  have h := joinL_len (tl y) (ss.map tl)
  rw [join_eq, len_tl, tl_join, len_tl y]
  rw [List.length_map, List.map_map] at h
  rw [show ss.map (fun x => x.length) = ss.map ((fun x => x.length) ∘ tl) from List.map_congr_left fun s _ => len_tl s]
  exact h
theorem sum_le {ss : List Str} {k : Nat} (h : ∀ s ∈ ss, s.length ≤ k) : (ss.map (·.length)).sum ≤ ss.length * k := by
  induction ss with
  | nil => simp
  | cons s r ih =>
    rw [List.map_cons, List.sum_cons, List.length_cons, Nat.add_one_mul]
    have h1 := h s List.mem_cons_self
    have h2 := ih fun t ht => h t (List.mem_cons_of_mem _ ht)
    omega
theorem str_ok {s : Str} (a : Asc s) : PyData.strOk s = true := by
  unfold PyData.strOk
  rw [show s.cps.all (fun x => decide (x < 0x110000)) = (tl s).all (fun x => decide (x < 0x110000)) by simp]
  exact List.all_eq_true.mpr fun c hc => decide_eq_true (Nat.lt_trans (a c hc) (by decide))
def dStrs (ws : List Str) : PyData := .list (ws.map .str)
theorem lay_strs : ∀ {ws : List Str}, (∀ s ∈ ws, Asc s) → PyData.canLayAll0 (ws.map .str) = true
  | [], _ => rfl
  | s :: r, h => by
    rw [List.map_cons, PyData.canLayAll0, PyData.canLay0, str_ok (h s List.mem_cons_self), lay_strs fun t ht => h t (List.mem_cons_of_mem _ ht)]
    rfl
theorem depth_strs : ∀ ws : List Str, PyData.depthAll (ws.map .str) = 0
  | [] => rfl
  | s :: r => by rw [List.map_cons, PyData.depthAll, PyData.depth, depth_strs r]; rfl
theorem shaped_strs {ws : List Str} (h : ∀ s ∈ ws, Asc s) : SeqAt.shaped (dStrs ws) = true := by
  unfold SeqAt.shaped dStrs
  rw [PyData.canLay0, lay_strs h, PyData.depth, depth_strs]
  rfl
theorem dpAll_strs {K : PySem.W.Frag} {H : Hp} : ∀ ws : List Str, DpAll K H (ws.map V.str) (ws.map .str)
  | [] => .nil
  | s :: r => .cons (.str s) (dpAll_strs r)
theorem dp_strs {K : PySem.W.Frag} {H : Hp} {a : Addr} {ws : List Str} (h : SqL K H a (ws.map V.str)) : Dp K H (.ref a) (dStrs ws) := .lst h (dpAll_strs ws)
theorem eqv_strs : ∀ ws : List Str, PyData.eqvAll (ws.map .str) (ws.map .str) = true
  | [] => rfl
  | s :: r => by rw [List.map_cons, PyData.eqvAll, eqv_strs r, PyData.eqv]; simp
theorem eqv_dstrs (ws : List Str) : PyData.eqv (dStrs ws) (dStrs ws) = true := by
  unfold dStrs
  rw [PyData.eqv, eqv_strs]
theorem in_strs (x : Str) : ∀ ws : List Str, inV (.str x) (ws.map V.str) = decide (x ∈ ws)
  | [] => rfl
  | s :: r => by
    have ih := in_strs x r
    unfold inV at ih ⊢
    rw [List.map_cons, List.any_cons, ih]
    show ((s == x) || decide (x ∈ r)) = _
    by_cases h : s = x
    · subst h; simp
    · simp [h, Ne.symm h]
theorem flat_strs (ws : List Str) : (ws.map V.str).all flatV = true := by
  rw [List.all_map]
  exact List.all_eq_true.mpr fun _ _ => rfl
/-- keywords at a call of a def without defaults -/
theorem kbF {K : PySem.W.Frag} {x qual : Str} {st : Stmt} {f : Addr} {fd : FuncData} {ps : List Str} (F : Fun K x qual st f fd) (n : Nat) (ks : List Str) (g : {α : Type} → List α → List α → List α)
    (hrel : ∀ {vs zs : List V} {us ws : List Value}, Vals vs us → Vals zs ws → Vals (g vs zs) (g us ws))
    (h : ∀ (kV doc pm : Value) (an : Option Addr) (cdv ct : Value) (us ws : List Value), us.length = n → ws.length = ks.length →
      bindArgs (PySem.W.fnOf x qual (defArgs st) (defBody st) (defScope st) .none kV doc pm an cdv ct) ⟨us, ks.zip ws⟩ = pure (ps.zip (g us ws))) : KBn K fd ps n ks (fun us ws => g us ws) (fun vs zs => g vs zs) := by
  obtain ⟨oc, od, kV, doc, pm, an, cdv, ct, osl, rfl, lk, hcd⟩ := F.ex
  exact ⟨fun s us ws X l1 l2 => .of_eq (h kV doc pm an cdv ct us ws l1 l2), fun r1 r2 => hrel r1 r2⟩
/-- isinstance(x, (a, b)) -/
theorem kit2 {K : PySem.W.Frag} {t a b : String} {r1 r2 : Bool} (h1 : kitB t a = some r1) (h2 : kitB t b = some r2) : PySem.W.kitAny K (.type t) [.type a, .type b] = some (r1 || r2) := by
  refine kitAny_cons (kit_ty h1) (fun e => ?_) (fun e => by rw [e]; rfl)
  subst e
  refine kitAny_cons (kit_ty h2) (fun e => by rw [e]; rfl) (fun e => by rw [e]; rfl)
theorem eqv_nil : ∀ ws : List Str, PyData.eqv (dStrs ws) (dStrs []) = decide (ws = [])
  | [] => rfl
  | s :: r => rfl
/-! ### signs as texts -/
def sg (l : List Nat) : List Str := l.map fun d => ⟨#[d]⟩
theorem sg_one {l : List Nat} : ∀ s ∈ sg l, s.length = 1 := fun s hs => by
  obtain ⟨d, _, rfl⟩ := List.mem_map.mp hs
  rfl
theorem sg_len (l : List Nat) : (sg l).length = l.length := List.length_map _
theorem sg_asc {l : List Nat} (h : ∀ c ∈ l, c < 128) : ∀ s ∈ sg l, Asc s := fun s hs => by
  obtain ⟨d, hd, rfl⟩ := List.mem_map.mp hs
  exact Asc.one (h d hd)
theorem tl_join_sg : ∀ l : List Nat, ((sg l).map tl).flatten = l
  | [] => rfl
  | c :: r => by
    have ih := tl_join_sg r
    show ([c] ++ ((sg r).map tl).flatten) = c :: r
    rw [ih]
    rfl
theorem sg_app (l : List Nat) (c : Nat) : (sg (l ++ [c])).map V.str = (sg l).map V.str ++ [.str ⟨#[c]⟩] := by
  unfold sg
  rw [List.map_append, List.map_append]
  rfl
theorem chr_inj {c d : Nat} (h : (⟨#[c]⟩ : Str) = ⟨#[d]⟩) : c = d := by
  have := congrArg tl h
  simpa using this
theorem ifC {A B : Prop} {c d : Nat} (h1 : c = d → A) (h2 : c ≠ d → B) : if decide (V.str ⟨#[c]⟩ = V.str ⟨#[d]⟩) = true then A else B := ifVS (fun h => h1 (chr_inj h)) fun h => h2 fun e => h (by rw [e])
theorem ifCn {A B : Prop} {c d : Nat} (h1 : c ≠ d → A) (h2 : c = d → B) : if (!decide (V.str ⟨#[c]⟩ = V.str ⟨#[d]⟩)) = true then A else B := ifVSn (fun h => h1 fun e => h (by rw [e])) fun h => h2 (chr_inj h)
theorem filt_in {pre : List Nat} {c d : Nat} (h : d ≠ c) : (pre ++ [d]).filter (fun x => decide (x ≠ c)) = pre.filter (fun x => decide (x ≠ c)) ++ [d] := by
  rw [List.filter_append, List.filter_cons, if_pos (by simpa using h)]
  rfl
theorem filt_out {pre : List Nat} {c d : Nat} (h : d = c) : (pre ++ [d]).filter (fun x => decide (x ≠ c)) = pre.filter (fun x => decide (x ≠ c)) := by
  rw [List.filter_append, List.filter_cons, if_neg (by simpa using h)]
  simp
theorem filt_asc {l : List Nat} {p : Nat → Bool} (h : ∀ c ∈ l, c < 128) : ∀ c ∈ l.filter p, c < 128 := fun c hc => h c (List.mem_filter.mp hc).1
theorem tl_joined_sg (l : List Nat) : tl (Txt.join (Str.ofString "") (sg l)) = l := by rw [tl_joinE, tl_join_sg]
/-! ### a text split at a sign -/
theorem split_tl (s : Str) {c : Nat} (h : c < 256) : (Txt.split s ⟨#[c]⟩).map tl = spl [c] 0 [] (tl s) := split_spl s ⟨#[c]⟩ (by simp) (kind_ok (by simpa using h))
theorem spl_asc : ∀ (l acc : List Nat) (c : Nat), (∀ d ∈ l, d < 128) → (∀ d ∈ acc, d < 128) → ∀ p ∈ spl [c] 0 acc l, ∀ d ∈ p, d < 128
  | [], acc, c, _, ha, p, hp, d, hd => by
    rw [spl_nil] at hp
    rw [List.mem_singleton.mp hp] at hd
    exact ha d hd
  | x :: r, acc, c, hl, ha, p, hp, d, hd => by
    have hr : ∀ d ∈ r, d < 128 := fun d h => hl d (List.mem_cons_of_mem _ h)
    by_cases e : pre [c] (x :: r) = true
    · rw [spl_hit e] at hp
      rcases List.mem_cons.mp hp with rfl | hp
      · exact ha d hd
      · exact spl_asc r [] c hr (fun _ h => by simp at h) p hp d hd
    · rw [spl_miss (by simpa using e)] at hp
      refine spl_asc r (acc ++ [x]) c hr (fun d h => ?_) p hp d hd
      rcases List.mem_append.mp h with h | h
      · exact ha d h
      · rw [List.mem_singleton.mp h]; exact hl x List.mem_cons_self
theorem split_asc {s : Str} {c : Nat} (h : c < 256) (a : Asc s) : ∀ w ∈ Txt.split s ⟨#[c]⟩, Asc w := fun w hw => by
  have : tl w ∈ (Txt.split s ⟨#[c]⟩).map tl := List.mem_map_of_mem hw
  rw [split_tl s h] at this
  exact spl_asc (tl s) [] c a (fun _ h => by simp at h) _ this
theorem spl_len : ∀ (l acc : List Nat) (c : Nat), (spl [c] 0 acc l).length ≤ l.length + 1
  | [], acc, c => by rw [spl_nil]; simp
  | x :: r, acc, c => by
    by_cases e : pre [c] (x :: r) = true
    · rw [spl_hit e, List.length_cons, List.length_cons]
      have := spl_len r [] c
      exact Nat.succ_le_succ this
    · rw [spl_miss (by simpa using e), List.length_cons]
      have := spl_len r (acc ++ [x]) c
      omega
theorem split_len {s : Str} {c : Nat} (h : c < 256) : (Txt.split s ⟨#[c]⟩).length ≤ s.length + 1 := by
  have := spl_len (tl s) [] c
  rw [← split_tl s h, List.length_map] at this
  rw [len_tl]
  exact this
theorem pre_one {c x : Nat} {r : List Nat} : pre [c] (x :: r) = decide (x = c) := by
  unfold pre
  by_cases h : x = c <;> simp [h]
/-! ### text * number -/
theorem op_mul_str {X : Cx} : OpR X (binaryOp .Mult) (fun x y H Q => ∃ i j, x = .str i ∧ y = .int j ∧ (0 ≤ j ∧ j ≤ 10000 ∧ i.length ≤ 1000) ∧ Q (.str (Txt.mul i j)) H) := fun pins s σ H x y v u Q I rx ry h => by
  obtain ⟨i, j, rfl, rfl, ⟨h0, h1, h2⟩, q⟩ := h
  obtain ⟨t, rfl⟩ := rx
  obtain ⟨t', rfl⟩ := ry
  refine SB.mul ⟨?_, fun h3 h4 => ?_, fun h3 h4 => ?_⟩ fun t' k => ⟨.str (Txt.mul i j), H, I.tok _, ⟨_, rfl⟩, q⟩
  · simp
    omega
  · have h5 : (i.length : Int) * j ≤ 1000 * 10000 := Int.mul_le_mul (by omega) h1 h0 (by decide)
    have h6 : (i.length : Int) ≤ (2 ^ 63 - 1) / j := Int.le_ediv_of_mul_le (by omega) (by omega)
    omega
  · have h5 : i.length * j.toNat ≤ 1000 * 10000 := Nat.mul_le_mul h2 (by omega)
    have h6 : i.length * j.toNat ≤ sizeLine := Nat.le_trans h5 (by decide)
    unfold Builtin.Str.tooLong
    exact decide_eq_false (by omega)
theorem fold_cps (a : Array Nat) : ∀ (k : Nat) (acc : Array Nat), ((List.replicate k a).foldl (fun x y => x ++ y) acc).toList = acc.toList ++ (List.replicate k a.toList).flatten
  | 0, acc => by simp
  | k + 1, acc => by
    rw [List.replicate_succ, List.foldl_cons, fold_cps a k, List.replicate_succ, List.flatten_cons, Array.toList_append, List.append_assoc]
theorem flat_nil : ∀ k : Nat, (List.replicate k ([] : List Nat)).flatten = []
  | 0 => rfl
  | k + 1 => by rw [List.replicate_succ, List.flatten_cons, flat_nil k]; rfl
theorem tl_mul (x : Str) (n : Int) : tl (Txt.mul x n) = (List.replicate n.toNat (tl x)).flatten := by
  unfold Txt.mul
  split
  · rename_i h
    rw [show n.toNat = 0 by omega]
    rfl
  · split
    · rename_i h1 h2
      rcases Bool.or_eq_true_iff.mp h2 with h | h
      · have : n = 1 := by simpa using h
        subst this
        simp
      · have h3 : x.length = 0 := by simpa using h
        rw [len_tl] at h3
        rw [List.length_eq_zero_iff.mp h3, flat_nil]
    · show ((List.replicate n.toNat x.cps).foldl (fun x y => x ++ y) #[]).toList = _
      rw [fold_cps]
      rfl
theorem mul_len (x : Str) (n : Int) : (Txt.mul x n).length = x.length * n.toNat := by
  rw [len_tl, tl_mul, List.length_flatten, List.map_replicate, List.sum_replicate_nat, len_tl, Nat.mul_comm]
theorem Asc.mul {x : Str} (a : Asc x) (n : Int) : Asc (Txt.mul x n) := fun c hc => by
  rw [tl_mul] at hc
  obtain ⟨l, hl, hc⟩ := List.mem_flatten.mp hc
  rw [List.eq_of_mem_replicate hl] at hc
  exact a c hc
/-! ### loops by what is behind -/
section
variable {g : TG} {tb : TS} {D : Ends} {σ : L2.St} {H : Hp}
theorem for_str {s : Str} (Pv : List Nat → L2.St → Hp → Prop) (h0 : Pv [] σ H)
    (hs : ∀ pre c post σ H, tl s = pre ++ c :: post → Pv pre σ H → g (.str ⟨#[c]⟩) σ H fun σ2 H2 => tb { D with nx := Pv (pre ++ [c]), ct := Pv (pre ++ [c]), bk := D.nx } σ2 H2) (hd : ∀ σ H, Pv (tl s) σ H → D.nx σ H) :
    ∃ W : Nat → Nat → L2.St → Hp → Prop, (∃ m, W 0 m σ H) ∧ ∀ i m σ H, W i m σ H →
      ((Its s).stop i H ∧ D.nx σ H) ∨ ((Its s).go i H ∧ ∃ N : L2.St → Hp → Prop, (∀ σ' H', N σ' H' → ∃ m', m' < m ∧ W (i + 1) m' σ' H') ∧ ∀ x H', (Its s).yld i H x H' → g x σ H' fun σ2 H2 => tb { D with nx := N, ct := N, bk := D.nx } σ2 H2) := by
  have hsz : s.cps.size = (tl s).length := by simp
  refine for_it walk_str (fun i σ H => Pv ((tl s).take i) σ H) (by simpa using h0) (fun _ _ _ _ _ => True.intro) ?_ (fun σ H p => hd σ H (by rw [hsz, List.take_length] at p; exact p))
  rintro i x σ H H' hi p ⟨rfl, c, hc, rfl⟩
  have hc' : (tl s)[i]? = some c := by simpa using hc
  have hl : i < (tl s).length := by omega
  have e : tl s = (tl s).take i ++ c :: (tl s).drop (i + 1) := by
    have h2 : (tl s)[i] = c := by rw [List.getElem?_eq_getElem hl] at hc'; exact Option.some.inj hc'
    rw [← h2, ← List.drop_eq_getElem_cons hl, List.take_append_drop]
  have e2 : (tl s).take (i + 1) = (tl s).take i ++ [c] := by rw [List.take_add_one, hc']; rfl
  rw [e2]
  exact hs _ c _ σ _ e p
theorem for_rg {lo : Int} {n : Nat} (Pv : Nat → L2.St → Hp → Prop) (h0 : Pv 0 σ H)
    (hs : ∀ i σ H, i < n → Pv i σ H → g (.int (lo + i)) σ H fun σ2 H2 => tb { D with nx := Pv (i + 1), ct := Pv (i + 1), bk := D.nx } σ2 H2) (hd : ∀ σ H, Pv n σ H → D.nx σ H) :
    ∃ W : Nat → Nat → L2.St → Hp → Prop, (∃ m, W 0 m σ H) ∧ ∀ i m σ H, W i m σ H →
      ((Itr lo n).stop i H ∧ D.nx σ H) ∨ ((Itr lo n).go i H ∧ ∃ N : L2.St → Hp → Prop, (∀ σ' H', N σ' H' → ∃ m', m' < m ∧ W (i + 1) m' σ' H') ∧ ∀ x H', (Itr lo n).yld i H x H' → g x σ H' fun σ2 H2 => tb { D with nx := N, ct := N, bk := D.nx } σ2 H2) := for_range Pv h0 hs hd
theorem for_li {K : PySem.W.Frag} {a : Addr} {xs : List V} (Pv : List V → L2.St → Hp → Prop) (h0 : Pv [] σ H) (hl : ∀ pre post σ H, xs = pre ++ post → Pv pre σ H → SqL K H a xs)
    (hs : ∀ pre x post σ H, xs = pre ++ x :: post → Pv pre σ H → g x σ H fun σ2 H2 => tb { D with nx := Pv (pre ++ [x]), ct := Pv (pre ++ [x]), bk := D.nx } σ2 H2) (hd : ∀ σ H, Pv xs σ H → D.nx σ H) :
    ∃ W : Nat → Nat → L2.St → Hp → Prop, (∃ m, W 0 m σ H) ∧ ∀ i m σ H, W i m σ H →
      ((Itl K a).stop i H ∧ D.nx σ H) ∨ ((Itl K a).go i H ∧ ∃ N : L2.St → Hp → Prop, (∀ σ' H', N σ' H' → ∃ m', m' < m ∧ W (i + 1) m' σ' H') ∧ ∀ x H', (Itl K a).yld i H x H' → g x σ H' fun σ2 H2 => tb { D with nx := N, ct := N, bk := D.nx } σ2 H2) := by
  refine for_it (walk_list (xs := xs)) (fun i σ H => Pv (xs.take i) σ H) (by simpa using h0) (fun i σ H _ p => hl (xs.take i) (xs.drop i) σ H (List.take_append_drop i xs).symm p) ?_ (fun σ H p => hd σ H (by rw [List.take_length] at p; exact p))
  rintro i x σ H H' hi p ⟨rfl, hc⟩
  have e : xs = xs.take i ++ x :: xs.drop (i + 1) := by
    have h2 : xs[i] = x := by rw [List.getElem?_eq_getElem hi] at hc; exact Option.some.inj hc
    rw [← h2, ← List.drop_eq_getElem_cons hi, List.take_append_drop]
  have e2 : xs.take (i + 1) = xs.take i ++ [x] := by rw [List.take_add_one, hc]; rfl
  rw [e2]
  exact hs _ x _ σ _ e p
end
section
variable {g : TG} {tt : TT} {te : TE} {vs : List Nat} {σ : L2.St} {H1 : Hp} {D : Addr} {Qd : Hp → Prop}
theorem lc_rg {lo : Int} {n : Nat} (Pv : Nat → Hp → Prop) (h0 : Pv 0 (upd H1 D (.lst [])))
    (hs : ∀ i H, i < n → Pv i H → g (.int (lo + i)) (wipe σ vs) H fun σ2 H2 => wipe σ2 vs = wipe σ vs ∧ tt σ2 H2 fun b H3 =>
      if b = true then te σ2 H3 fun y H4 => ∃ acc, H4 D = some (.lst acc) ∧ acc.length < sizeLine ∧ Pv (i + 1) (upd H4 D (.lst (acc ++ [y]))) else Pv (i + 1) H3) (hd : ∀ H, Pv n H → Qd H) :
    ∃ W : Nat → Nat → Hp → Prop, (∃ m, W 0 m (upd H1 D (.lst []))) ∧ ∀ i m H, W i m H →
      ((Itr lo n).stop i H ∧ Qd H) ∨ ((Itr lo n).go i H ∧ ∃ Nx : Hp → Prop, (∀ H', Nx H' → ∃ m', m' < m ∧ W (i + 1) m' H') ∧ ∀ x H', (Itr lo n).yld i H x H' → g x (wipe σ vs) H' fun σ2 H2 => wipe σ2 vs = wipe σ vs ∧ tt σ2 H2 fun b H3 =>
        if b = true then te σ2 H3 fun y H4 => ∃ acc, H4 D = some (.lst acc) ∧ acc.length < sizeLine ∧ Nx (upd H4 D (.lst (acc ++ [y]))) else Nx H3) := lc_range Pv h0 hs hd
theorem lc_str {s : Str} (Pv : List Nat → Hp → Prop) (h0 : Pv [] (upd H1 D (.lst [])))
    (hs : ∀ pre c post H, tl s = pre ++ c :: post → Pv pre H → g (.str ⟨#[c]⟩) (wipe σ vs) H fun σ2 H2 => wipe σ2 vs = wipe σ vs ∧ tt σ2 H2 fun b H3 =>
      if b = true then te σ2 H3 fun y H4 => ∃ acc, H4 D = some (.lst acc) ∧ acc.length < sizeLine ∧ Pv (pre ++ [c]) (upd H4 D (.lst (acc ++ [y]))) else Pv (pre ++ [c]) H3) (hd : ∀ H, Pv (tl s) H → Qd H) :
    ∃ W : Nat → Nat → Hp → Prop, (∃ m, W 0 m (upd H1 D (.lst []))) ∧ ∀ i m H, W i m H →
      ((Its s).stop i H ∧ Qd H) ∨ ((Its s).go i H ∧ ∃ Nx : Hp → Prop, (∀ H', Nx H' → ∃ m', m' < m ∧ W (i + 1) m' H') ∧ ∀ x H', (Its s).yld i H x H' → g x (wipe σ vs) H' fun σ2 H2 => wipe σ2 vs = wipe σ vs ∧ tt σ2 H2 fun b H3 =>
        if b = true then te σ2 H3 fun y H4 => ∃ acc, H4 D = some (.lst acc) ∧ acc.length < sizeLine ∧ Nx (upd H4 D (.lst (acc ++ [y]))) else Nx H3) := by
  have hsz : s.cps.size = (tl s).length := by simp
  refine lc_it walk_str (fun i H => Pv ((tl s).take i) H) (by simpa using h0) (fun _ _ _ _ => True.intro) ?_ (fun H p => hd H (by rw [hsz, List.take_length] at p; exact p))
  rintro i x H H' hi p ⟨rfl, c, hc, rfl⟩
  have hc' : (tl s)[i]? = some c := by simpa using hc
  have hl : i < (tl s).length := by omega
  have e : tl s = (tl s).take i ++ c :: (tl s).drop (i + 1) := by
    have h2 : (tl s)[i] = c := by rw [List.getElem?_eq_getElem hl] at hc'; exact Option.some.inj hc'
    rw [← h2, ← List.drop_eq_getElem_cons hl, List.take_append_drop]
  have e2 : (tl s).take (i + 1) = (tl s).take i ++ [c] := by rw [List.take_add_one, hc']; rfl
  rw [e2]
  exact hs _ c _ _ e p
theorem lc_li {K : PySem.W.Frag} {a : Addr} {xs : List V} (Pv : List V → Hp → Prop) (h0 : Pv [] (upd H1 D (.lst []))) (hl : ∀ pre post H, xs = pre ++ post → Pv pre H → SqL K H a xs)
    (hs : ∀ pre x post H, xs = pre ++ x :: post → Pv pre H → g x (wipe σ vs) H fun σ2 H2 => wipe σ2 vs = wipe σ vs ∧ tt σ2 H2 fun b H3 =>
      if b = true then te σ2 H3 fun y H4 => ∃ acc, H4 D = some (.lst acc) ∧ acc.length < sizeLine ∧ Pv (pre ++ [x]) (upd H4 D (.lst (acc ++ [y]))) else Pv (pre ++ [x]) H3) (hd : ∀ H, Pv xs H → Qd H) :
    ∃ W : Nat → Nat → Hp → Prop, (∃ m, W 0 m (upd H1 D (.lst []))) ∧ ∀ i m H, W i m H →
      ((Itl K a).stop i H ∧ Qd H) ∨ ((Itl K a).go i H ∧ ∃ Nx : Hp → Prop, (∀ H', Nx H' → ∃ m', m' < m ∧ W (i + 1) m' H') ∧ ∀ x H', (Itl K a).yld i H x H' → g x (wipe σ vs) H' fun σ2 H2 => wipe σ2 vs = wipe σ vs ∧ tt σ2 H2 fun b H3 =>
        if b = true then te σ2 H3 fun y H4 => ∃ acc, H4 D = some (.lst acc) ∧ acc.length < sizeLine ∧ Nx (upd H4 D (.lst (acc ++ [y]))) else Nx H3) := by
  refine lc_it (walk_list (xs := xs)) (fun i H => Pv (xs.take i) H) (by simpa using h0) (fun i H _ p => hl (xs.take i) (xs.drop i) H (List.take_append_drop i xs).symm p) ?_ (fun H p => hd H (by rw [List.take_length] at p; exact p))
  rintro i x H H' hi p ⟨rfl, hc⟩
  have e : xs = xs.take i ++ x :: xs.drop (i + 1) := by
    have h2 : xs[i] = x := by rw [List.getElem?_eq_getElem hi] at hc; exact Option.some.inj hc
    rw [← h2, ← List.drop_eq_getElem_cons hi, List.take_append_drop]
  have e2 : xs.take (i + 1) = xs.take i ++ [x] := by rw [List.take_add_one, hc]; rfl
  rw [e2]
  exact hs _ x _ _ e p
end
end FR
set_option Elab.async false
set_option linter.all false
set_option maxRecDepth 100000
/-! names and paths; defs with a star parameter -/
namespace FR
open PySem PySem.Spec PyProof.Rows L2 TL
theorem Keep.trans {M : List Addr} {H H1 H2 : Hp} (a : Keep M H H1) (b : Keep M H1 H2) : Keep M H H2 := fun p o e hp => b p o (a p o e hp) hp
theorem Keep.nil {M : List Addr} {H H1 : Hp} (a : Keep [] H H1) : Keep M H H1 := fun p o e _ => a p o e (by simp)
theorem Ow.sel {H0 H : Hp} {M : List Addr} {L L' : List (Addr × HO)} (W : Ow H0 M H L) (h : L'.Sublist L) : Ow H0 M H L' := ⟨W.keep, fun p hp => W.has p (h.subset hp), (h.map _).nodup W.nd, fun p hp => W.fr p (h.subset hp)⟩
theorem Ow.fresh {H0 H : Hp} {M : List Addr} {L : List (Addr × HO)} {p : Addr} {o : HO} (W : Ow H0 M H ((p, o) :: L)) (h : ∀ x ∈ M, x ∈ L.map (·.1)) : H0 p = none := by
  rcases W.fr _ List.mem_cons_self with r | r
  · exact r
  · exact absurd (h _ r) (List.nodup_cons.mp W.nd).1
theorem Ow.anyN {H0 H H' : Hp} {M : List Addr} {L : List (Addr × HO)} {a p : Addr} {o o' o2 : HO} (W : Ow H0 M H L) (i : Nat) (e : L[i]? = some (a, o)) (k : Keep [a] H H') (h : H' a = some o') (hp : H p = none) (h2 : H' p = some o2) : Ow H0 M H' ((p, o2) :: L.set i (a, o')) where
  keep := (W.any1 i e k h).keep
  has := fun q hq => by
    rcases List.mem_cons.mp hq with rfl | hq
    · exact h2
    · exact (W.any1 i e k h).has q hq
  nd := by
    rw [List.map_cons, List.nodup_cons, map_set_fst e]
    refine ⟨fun hm => ?_, W.nd⟩
    obtain ⟨q, hq, e⟩ := List.mem_map.mp hm
    have := W.has q hq
    rw [show q.1 = p from e, hp] at this
    cases this
  fr := fun q hq => by
    rcases List.mem_cons.mp hq with rfl | hq
    · by_cases hm : p ∈ M
      · exact .inr hm
      · cases e0 : H0 p with
        | none => exact .inl rfl
        | some u =>
          have := W.keep p u e0 hm
          rw [hp] at this
          cases this
    · exact (W.any1 i e k h).fr q hq
/-- a small letter -/
def lc (c : Nat) : Bool := decide (97 ≤ c ∧ c ≤ 122)
theorem lc_alpha : ∀ c : Fin 128, lc c.1 = true → Unicode.isAlpha c.1 = true ∧ Unicode.isLower c.1 = true ∧ (Unicode.isUpper c.1 || Unicode.isTitle c.1) = false := by decide +kernel
theorem all_tl (s : Str) (p : Nat → Bool) : s.cps.all p = (tl s).all p := by simp
theorem any_tl (s : Str) (p : Nat → Bool) : s.cps.any p = (tl s).any p := by simp
theorem isascii_asc {s : Str} (a : Asc s) : Txt.isascii s = true := by
  show s.cps.all (· < 128) = true
  rw [all_tl]
  exact List.all_eq_true.mpr fun c hc => decide_eq_true (a c hc)
/-- a name -/
structure Nm (s : Str) : Prop where
  l0 : 1 ≤ s.length
  l1 : s.length ≤ 8
  lo : ∀ c ∈ tl s, lc c = true
theorem Nm.lt {s : Str} (h : Nm s) {c : Nat} (hc : c ∈ tl s) : 97 ≤ c ∧ c ≤ 122 := of_decide_eq_true (h.lo c hc)
theorem Nm.asc {s : Str} (h : Nm s) : Asc s := fun c hc => by have := h.lt hc; omega
theorem Nm.alpha {s : Str} (h : Nm s) : Txt.isalpha s = true := by
  show (decide (s.length > 0) && s.cps.all Unicode.isAlpha) = true
  rw [all_tl, Bool.and_eq_true, decide_eq_true_eq, List.all_eq_true]
  exact ⟨h.l0, fun c hc => (lc_alpha ⟨c, h.asc c hc⟩ (h.lo c hc)).1⟩
theorem Nm.lower {s : Str} (h : Nm s) : Txt.islower s = true := by
  show (s.cps.any Unicode.isLower && !s.cps.any fun c => Unicode.isUpper c || Unicode.isTitle c) = true
  rw [any_tl, any_tl, Bool.and_eq_true, List.any_eq_true, Bool.not_eq_true', List.any_eq_false]
  refine ⟨?_, fun c hc => by have := (lc_alpha ⟨c, h.asc c hc⟩ (h.lo c hc)).2.2; simpa using this⟩
  have h0 := h.l0
  rw [len_tl] at h0
  obtain ⟨c, hc⟩ := List.exists_mem_of_length_pos h0
  exact ⟨c, hc, (lc_alpha ⟨c, h.asc c hc⟩ (h.lo c hc)).2.1⟩
theorem slash : Str.ofString "/" = ⟨#[47]⟩ := by decide +kernel
theorem tl_slash : tl (Str.ofString "/") = [47] := by decide +kernel
theorem tl_emp : tl (Str.ofString "") = [] := by decide +kernel
/-- names behind slashes -/
def flat (ns : List Str) : List Nat := (ns.map fun s => 47 :: tl s).flatten
def cat (ns : List Str) : Str := ns.foldl (fun a n => (a ++ Str.ofString "/") ++ n) (Str.ofString "")
theorem cat_app (ns : List Str) (n : Str) : cat (ns ++ [n]) = (cat ns ++ Str.ofString "/") ++ n := by
  unfold cat
  rw [List.foldl_append]
  rfl
theorem tl_catF : ∀ (ns : List Str) (a : Str), tl (ns.foldl (fun a n => (a ++ Str.ofString "/") ++ n) a) = tl a ++ flat ns
  | [], a => by simp [flat]
  | n :: r, a => by
    rw [List.foldl_cons, tl_catF r, tl_append, tl_append, tl_slash]
    simp [flat]
theorem tl_cat (ns : List Str) : tl (cat ns) = flat ns := by
  unfold cat
  rw [tl_catF, tl_emp]
  rfl
def Nms (ns : List Str) : Prop := ∀ s ∈ ns, Nm s
theorem Nms.app {a b : List Str} (ha : Nms a) (hb : Nms b) : Nms (a ++ b) := fun s h => (List.mem_append.mp h).elim (ha s) (hb s)
theorem Nms.sub {a b : List Str} (h : Nms b) (s : ∀ x ∈ a, x ∈ b) : Nms a := fun x hx => h x (s x hx)
theorem Nms.take {a : List Str} (h : Nms a) (k : Nat) : Nms (a.take k) := h.sub fun _ => List.mem_of_mem_take
theorem Nms.drop {a : List Str} (h : Nms a) (k : Nat) : Nms (a.drop k) := h.sub fun _ => List.mem_of_mem_drop
theorem Nms.dropLast {a : List Str} (h : Nms a) : Nms a.dropLast := h.sub fun _ hx => (List.dropLast_subset _) hx
theorem Nms.asc {a : List Str} (h : Nms a) : ∀ s ∈ a, Asc s := fun s hs => (h s hs).asc
theorem flat_len : ∀ {ns : List Str}, Nms ns → (flat ns).length ≤ 9 * ns.length
  | [], _ => by simp [flat]
  | n :: r, h => by
    have ih := flat_len (ns := r) fun s hs => h s (List.mem_cons_of_mem _ hs)
    have h1 := (h n List.mem_cons_self).l1
    rw [len_tl] at h1
    show ((47 :: tl n) ++ flat r).length ≤ _
    rw [List.length_append, List.length_cons, List.length_cons]
    omega
theorem cat_len {ns : List Str} (h : Nms ns) : (cat ns).length ≤ 9 * ns.length := by
  rw [len_tl, tl_cat]
  exact flat_len h
def pathOf (ns : List Str) : Str := if ns = [] then Str.ofString "/" else cat ns
theorem pathOf_nil : pathOf [] = Str.ofString "/" := rfl
theorem pathOf_ne {ns : List Str} (h : ns ≠ []) : pathOf ns = cat ns := if_neg h
theorem path_len {ns : List Str} (h : Nms ns) : (pathOf ns).length ≤ 9 * ns.length + 1 := by
  by_cases e : ns = []
  · subst e
    decide +kernel
  · rw [pathOf_ne e]
    exact Nat.le_trans (cat_len h) (by omega)
theorem flat_cons (n : Str) (r : List Str) : flat (n :: r) = 47 :: (tl n ++ flat r) := by simp [flat]
theorem path_starts (ns : List Str) : Txt.startswith (pathOf ns) (Str.ofString "/") = true := by
  rw [slash, starts_one]
  cases ns with
  | nil => decide +kernel
  | cons n r => rw [pathOf_ne (by simp), tl_cat, flat_cons]; rfl
theorem path_slash {ns : List Str} (h : Nms ns) (e : ns ≠ []) : pathOf ns ≠ Str.ofString "/" := fun he => by
  have := congrArg tl he
  rw [pathOf_ne e, tl_cat, tl_slash] at this
  cases ns with
  | nil => exact e rfl
  | cons n r =>
    rw [flat_cons] at this
    have h0 := (h n List.mem_cons_self).l0
    rw [len_tl] at h0
    have h2 := congrArg List.length this
    simp at h2
    simp [h2.1] at h0
theorem cat_emp {ns : List Str} : cat ns = Str.ofString "" ↔ ns = [] := by
  constructor
  · intro h
    cases ns with
    | nil => rfl
    | cons n r =>
      have := congrArg tl h
      rw [tl_cat, flat_cons, tl_emp] at this
      cases this
  · rintro rfl
    rfl
theorem spl_word : ∀ (l acc r : List Nat), (∀ c ∈ l, c ≠ 47) → spl [47] 0 acc (l ++ r) = spl [47] 0 (acc ++ l) r
  | [], acc, r, _ => by simp
  | c :: l, acc, r, h => by
    rw [List.cons_append, spl_miss (by rw [pre_one]; exact decide_eq_false (h c List.mem_cons_self)), spl_word l _ r fun d hd => h d (List.mem_cons_of_mem _ hd)]
    simp
theorem spl_flat : ∀ (ns : List Str) (acc : List Nat), Nms ns → spl [47] 0 acc (flat ns) = acc :: ns.map tl
  | [], acc, _ => by
    show spl [47] 0 acc [] = _
    rw [spl_nil]
    rfl
  | n :: r, acc, h => by
    have hn := h n List.mem_cons_self
    rw [flat_cons, spl_hit (by rw [pre_one]; rfl), List.map_cons]
    show acc :: spl [47] 0 [] (tl n ++ flat r) = _
    rw [spl_word _ _ _ fun c hc => by have := hn.lt hc; omega, spl_flat r _ fun s hs => h s (List.mem_cons_of_mem _ hs)]
    rfl
theorem split_path {ns : List Str} (h : Nms ns) (e : ns ≠ []) : Txt.split (pathOf ns) (Str.ofString "/") = Str.ofString "" :: ns := by
  refine map_tl_inj ?_
  rw [slash, split_tl _ (by decide), pathOf_ne e, tl_cat, spl_flat _ _ h, List.map_cons, tl_emp]
theorem flat_join : ∀ {ns : List Str}, ns ≠ [] → 47 :: joinL [47] (ns.map tl) = flat ns
  | [], h => absurd rfl h
  | [s], _ => by
    rw [flat_cons]
    show 47 :: tl s = 47 :: (tl s ++ [])
    rw [List.append_nil]
  | s :: t :: r, _ => by
    have ih := flat_join (ns := t :: r) (by simp)
    rw [flat_cons, ← ih]
    rfl
theorem join_path (ns : List Str) : Str.ofString "/" ++ Txt.join (Str.ofString "/") ns = pathOf ns := by
  refine ext_tl ?_
  rw [tl_append, join_eq, tl_join, tl_slash]
  cases ns with
  | nil => decide +kernel
  | cons n r =>
    rw [pathOf_ne (by simp), tl_cat]
    exact flat_join (by simp)
theorem names_sum {ns : List Str} (h : Nms ns) : (ns.map (·.length)).sum ≤ ns.length * 8 := sum_le fun s hs => (h s hs).l1
theorem ix_listK {X : Cx} {K : PySem.W.Frag} (h : X.K = K) : IxR X (rIxL K) := h ▸ ix_list
/-! slices -/
theorem cutV_to (xs : List V) (k : Nat) : cutV xs none (some (k : Int)) = xs.take k := by
  show (xs.drop 0).take (HT.sIx xs.length xs.length (some (k : Int)) - 0) = _
  rw [HT.sIx_nat, List.drop_zero, Nat.sub_zero]
  by_cases h : k ≤ xs.length
  · rw [Nat.min_eq_left h]
  · rw [Nat.min_eq_right (by omega), List.take_of_length_le (Nat.le_refl _), List.take_of_length_le (by omega)]
theorem cutV_from (xs : List V) (k : Nat) : cutV xs (some (k : Int)) none = xs.drop k := by
  show (xs.drop (HT.sIx xs.length 0 (some (k : Int)))).take (xs.length - HT.sIx xs.length 0 (some (k : Int))) = _
  rw [HT.sIx_nat]
  by_cases h : k ≤ xs.length
  · rw [Nat.min_eq_left h, List.take_of_length_le (by rw [List.length_drop]; exact Nat.le_refl _)]
  · rw [Nat.min_eq_right (by omega), Nat.sub_self, List.take_zero, List.drop_of_length_le (by omega)]
theorem cutV_last (xs : List V) : cutV xs none (some (-1)) = xs.dropLast := by
  show (xs.drop 0).take (((-1 : Int) + (xs.length : Int)).toNat - 0) = _
  rw [List.drop_zero, Nat.sub_zero, List.dropLast_eq_take, show ((-1 : Int) + (xs.length : Int)).toNat = xs.length - 1 by omega]
theorem tl_cutTo (s : Str) (k : Nat) : tl (cutS s none (some (k : Int))) = (tl s).take k := by
  rw [tl_cutS]
  show ((tl s).drop 0).take (HT.sIx s.length s.length (some (k : Int)) - 0) = _
  rw [HT.sIx_nat, len_tl, List.drop_zero, Nat.sub_zero]
  by_cases h : k ≤ (tl s).length
  · rw [Nat.min_eq_left h]
  · rw [Nat.min_eq_right (by omega), List.take_of_length_le (Nat.le_refl _), List.take_of_length_le (by omega)]
theorem eqv_strs2 : ∀ a b : List Str, PyData.eqvAll (a.map .str) (b.map .str) = decide (a = b)
  | [], [] => rfl
  | [], _ :: _ => rfl
  | _ :: _, [] => rfl
  | x :: a, y :: b => by
    rw [List.map_cons, List.map_cons, PyData.eqvAll, eqv_strs2 a b, PyData.eqv]
    by_cases h : x = y
    · subst h
      simp
    · simp [h]
theorem eqv_lists (a b : List Str) : PyData.eqv (dStrs a) (dStrs b) = decide (a = b) := by
  unfold dStrs
  rw [PyData.eqv, eqv_strs2]
theorem shaped_names {ns : List Str} (h : Nms ns) : SeqAt.shaped (dStrs ns) = true := shaped_strs h.asc
/-! ### a walk over a tuple by what is behind -/
section
variable {g : TG} {tb : TS} {D : Ends} {σ : L2.St} {H : Hp}
theorem for_tu {K : PySem.W.Frag} {a : Addr} {xs : List V} (Pv : List V → L2.St → Hp → Prop) (h0 : Pv [] σ H) (hl : ∀ pre post σ H, xs = pre ++ post → Pv pre σ H → SqT K H a xs)
    (hs : ∀ pre x post σ H, xs = pre ++ x :: post → Pv pre σ H → g x σ H fun σ2 H2 => tb { D with nx := Pv (pre ++ [x]), ct := Pv (pre ++ [x]), bk := D.nx } σ2 H2) (hd : ∀ σ H, Pv xs σ H → D.nx σ H) :
    ∃ W : Nat → Nat → L2.St → Hp → Prop, (∃ m, W 0 m σ H) ∧ ∀ i m σ H, W i m σ H →
      ((Itt K a).stop i H ∧ D.nx σ H) ∨ ((Itt K a).go i H ∧ ∃ N : L2.St → Hp → Prop, (∀ σ' H', N σ' H' → ∃ m', m' < m ∧ W (i + 1) m' σ' H') ∧ ∀ x H', (Itt K a).yld i H x H' → g x σ H' fun σ2 H2 => tb { D with nx := N, ct := N, bk := D.nx } σ2 H2) := by
  refine for_it (walk_tup (xs := xs)) (fun i σ H => Pv (xs.take i) σ H) (by simpa using h0) (fun i σ H _ p => hl (xs.take i) (xs.drop i) σ H (List.take_append_drop i xs).symm p) ?_ (fun σ H p => hd σ H (by rw [List.take_length] at p; exact p))
  rintro i x σ H H' hi p ⟨rfl, hc⟩
  have e : xs = xs.take i ++ x :: xs.drop (i + 1) := by
    have h2 : xs[i] = x := by rw [List.getElem?_eq_getElem hi] at hc; exact Option.some.inj hc
    rw [← h2, ← List.drop_eq_getElem_cons hi, List.take_append_drop]
  have e2 : xs.take (i + 1) = xs.take i ++ [x] := by rw [List.take_add_one, hc]; rfl
  rw [e2]
  exact hs _ x _ σ _ e p
end
/-! ### defs with a star parameter, and their calls -/
theorem okStar {P : Program} {w : World} {K : PySem.W.Frag} {mg : Str → Option Value} {base : Heap} {x qual pv : Str} {st : Stmt} {f : Addr} {fd : FuncData} {N ps : List Str} {k : Nat} {sp : Sp} (F : L2.Fun K x qual st f fd) (S : FnScope N (ps ++ [pv]) (defScope st))
    (hb : ∀ (kV doc pm : Value) (an : Option Addr) (cdv ct : Value) (us rest : List Value), us.length = ps.length → bindArgs (PySem.W.fnOf x qual (defArgs st) (defBody st) (defScope st) .none kV doc pm an cdv ct) ⟨us ++ rest, []⟩ = (newTuple rest >>= fun t => pure (ps.zip us ++ [(pv, t)])))
    (hbody : ∀ (cdv : Value) (A : Around) (outer : List Env) (s : Shared) (H : Hp) (vs : List V) (Q : VK) (E : XK), Room k (A.deeper (envOfC qual (defScope st) s.heap.objs.size f cdv)) → sp vs H Q E →
      ∃ t, PSs (cxOf CX0 P w K mg base N qual (defScope st) f cdv A outer s H E).nox (defBody st) t ∧ t { nx := fun _ H' => Q .non H', rt := Q } (start N vs) H) :
    FnR P w K mg base CX0 (k + 1) f (fun vs H Q E => ∃ ws rest, vs = ws ++ rest ∧ ws.length = ps.length ∧ rest.length ≤ sizeLine ∧ ∀ p, H p = Option.none → sp (ws ++ [V.ref p]) (upd H p (.tup rest)) Q E) := by
  obtain ⟨oc, od, kV, doc, pm, an, cdv, ct, osl, rfl, lk, hcd⟩ := F.ex
  refine StX.fn_star lk hcd S StX.cxUp_none (hb kV doc pm an cdv ct) fun A outer s H vs Q E hr hsp => ?_
  obtain ⟨t, h, q⟩ := hbody cdv A outer s H vs Q E hr hsp
  exact ⟨t, h.nox, q⟩
section
variable {X : Cx} {CX : CXT} {k : Nat} {f : Addr} {sp : Sp} {E : XK} {x : Str} {e : Expr} {es : List Expr} {t : TA} {p pos : Pos}
theorem pe_callRN (F : FnR X.prog X.w X.K X.mg X.base CX k f sp) (hr : Room k X.A) (hk : PySem.W.keepIn X.K (.ref f) = true) (hg : Gl X x) (hm : X.mg x = some (.ref f)) (hx : Passes CX X E) (ha : PA X (e :: es) t) (hd : (x == ("__debug__" : Str)) = false := by decide)
    (he : starEach (e :: es) X.env = (false, eval e X.env) :: starEach es X.env := by rfl) (hpl : (backTo pos (starEach es X.env)).any (·.1) = false := by rfl) :
    PE X (.Call (.Name x p) (e :: es) [] pos) (fun σ H Q => t σ H fun vs H1 => sp vs H1 Q E) := by
  refine ⟨fun pins s σ H Q I h => ?_⟩
  refine wpAny_Call_Name_kw (ld_glob I hg hm ?_ hd)
  refine PySem.W.callWith_K (h₀ := X.base) I.ok.mod.kin hk (thn (ha.run pos pins s σ H _ I h) fun us s1 ⟨vs, H1, I1, r, q⟩ => ⟨I1.kIn, ?_⟩) he hpl
  exact wpAny_call (run_fnR F hr hx I1 r q)
end

end FR
set_option Elab.async false
set_option linter.all false
set_option maxRecDepth 100000
namespace FR
open PySem PySem.Spec PyProof.Rows L2 TL
theorem pe_joinK {X : Cx} {K : PySem.W.Frag} {o e : Expr} {to te : TE} {apos pos : Pos} (h : X.K = K) (ho : PE X o to) (he : PE X e te) (hs : starEach [e] X.env = [(false, eval e X.env)] := by rfl) (hbase : attributeBase o "join" X.env (eval o X.env) = eval o X.env := by rfl) (hline : (apos.endLine == pos.line) = true := by rfl) :
    PE X (.Call (.Attribute o "join" apos) [e] [] pos) (tM1 (fun x xs H Q => ∃ a p, ∃ ys : List Str, x = .str a ∧ xs = [.ref p] ∧ (SqL K H p (ys.map V.str) ∨ SqT K H p (ys.map V.str)) ∧
      (ys.map (·.length)).sum + ys.length * a.length ≤ 16777216 ∧ Q (.str (Txt.join a ys)) H) to te) := h ▸ pe_join ho he hs hbase hline
end FR
set_option Elab.async false
set_option linter.all false
set_option maxRecDepth 100000
/-! promises that also know that no repr is under way; repr of data -/
namespace FR
open PySem PySem.Spec PyProof.Rows L2 TL
def FnG (P : Program) (w : World) (K : PySem.W.Frag) (mg : Str → Option Value) (base : Heap) (CX : CXT) (k : Nat) (f : Addr) (sp : Sp) : Prop :=
  ∀ (A : Around) (outer : List Env) (s : Shared) (H : Hp) (us : List Value) (vs : List V) (Q : VK) (E : XK), A.guards = some [] → Room k A → Env0 P w K mg base A outer s H → Vals vs us → sp vs H Q E → codeAny (model P w) A (.call (.ref f) ⟨us, []⟩) (CR CX outer P w H s Q E) s
section
variable {P : Program} {w : World} {K : PySem.W.Frag} {mg : Str → Option Value} {base : Heap} {CX : CXT} {k : Nat} {f : Addr} {sp : Sp}
theorem FnG.of (F : FnR P w K mg base CX k f sp) : FnG P w K mg base CX k f sp := fun A outer s H us vs Q E _ hr e0 r hs => F A outer s H us vs Q E hr e0 r hs
theorem okG {x qual : Str} {st : Stmt} {fd : FuncData} {N ps : List Str} (F : L2.Fun K x qual st f fd) (S : FnScope N ps (defScope st)) (B : Binds K fd ps []) (hlen : ∀ vs H Q E, sp vs H Q E → vs.length = ps.length)
    (hbody : ∀ (cdv : Value) (A : Around) (outer : List Env) (s : Shared) (H : Hp) (vs : List V) (Q : VK) (E : XK), A.guards = some [] → Room k (A.deeper (envOfC qual (defScope st) s.heap.objs.size f cdv)) → sp vs H Q E →
      ∃ t, PSs (cxOf CX P w K mg base N qual (defScope st) f cdv A outer s H E) (defBody st) t ∧ t { nx := fun _ H' => Q .non H', rt := Q } (start N vs) H) : FnG P w K mg base CX (k + 1) f sp := by
  intro A outer s H us vs Q E hg hr e0 r hsp
  obtain ⟨oc, od, kV, doc, pm, an, cdv, ct, osl, rfl, lk, hcd⟩ := F.ex
  have hv : vs.length = ps.length := hlen _ _ _ _ hsp
  have hu : us.length = ps.length := by rw [← r.length]; exact hv
  have KI : K.In s.heap := e0.mod.kin.keeps fun b o e => (e0.bs b o e).1
  have b0 := B s us KI (by rw [List.append_nil]; exact hu)
  rw [List.append_nil] at b0
  refine StX.run_bnd lk hcd S hr e0 (G := fun xs H2 => xs = vs ∧ H2 = H) (fun A' Ex Q' h => ?_) fun s2 H2 xs ⟨ex, eH⟩ hr' => ?_
  · exact b0 _ _ _ _ (h s H vs us e0 Un.refl rfl (fun _ _ z => z) r hv ⟨rfl, rfl⟩)
  · subst ex eH
    exact hbody cdv A outer s2 _ _ Q E hg hr' hsp
end
section
variable {X : Cx} {CX : CXT} {k : Nat} {f : Addr} {sp : Sp} {E : XK} {x : Str} {e : Expr} {es : List Expr} {t : TA} {p pos : Pos}
theorem pe_callG (F : FnG X.prog X.w X.K X.mg X.base CX k f sp) (hgd : X.A.guards = some []) (hr : Room k X.A) (hk : PySem.W.keepIn X.K (.ref f) = true) (hg : Gl X x) (hm : X.mg x = some (.ref f)) (hx : Passes CX X E) (ha : PA X (e :: es) t) (hd : (x == ("__debug__" : Str)) = false := by decide)
    (he : starEach (e :: es) X.env = (false, eval e X.env) :: starEach es X.env := by rfl) (hpl : (backTo pos (starEach es X.env)).any (·.1) = false := by rfl) :
    PE X (.Call (.Name x p) (e :: es) [] pos) (fun σ H Q => t σ H fun vs H1 => sp vs H1 Q E) := ⟨fun pins s σ H Q I h => by
  refine wpAny_Call_Name_kw (ld_glob I hg hm (PySem.W.callWith_K (h₀ := X.base) I.ok.mod.kin hk (thn (ha.run pos pins s σ H _ I h) fun us s1 hz => ?_) he hpl) hd)
  obtain ⟨vs, H1, I1, r, q⟩ := hz
  refine ⟨I1.kIn, wpAny_call (codeAny_mono (F X.A X.stack s1 H1 us vs Q E hgd hr I1.env0 r q) fun rr s' hq => ?_)⟩
  match rr, hq with
  | .error ee, hq => exact hx pins σ H1 s1 ee s' I1 hq
  | .ok (.ret u), hq => exact I1.after hq
  | .ok .next, hq => exact hq.elim
  | .ok .brk, hq => exact hq.elim
  | .ok .cont, hq => exact hq.elim⟩
/-- repr of data without dicts -/
def rReprD (K : PySem.W.Frag) : List V → Hp → VK → Prop := fun xs H Q => ∃ (p : Addr) (d : PyData), xs = [.ref p] ∧ Dp K H (.ref p) d ∧ d.showable = true ∧ d.hasDict = false ∧ d.depth ≤ 50 ∧ d.shown.length ≤ sizeLine ∧ Q (.str d.shown) H
theorem call_reprD (hgd : X.A.guards = some []) (hu : X.A.units + 65 < cLine) : CallR X (.builtin "repr") (rReprD X.K) := fun pins s σ H xs us Q I r h => by
  obtain ⟨p, d, rfl, hd, hs, hnd, hdp, hz, q⟩ := h
  obtain ⟨u, rfl, ru⟩ : ∃ u, us = [u] ∧ RelV (.ref p) u := by
    cases r with
    | cons a b => cases b; exact ⟨_, rfl, a⟩
  cases (show u = Value.ref p from ru)
  obtain ⟨as, rd⟩ := Dp.reads I d _ _ hd ru
  exact repr_of_reads' rd hs (fun e => by rw [hnd] at e; cases e) hgd (by omega) (fun _ _ e => e) (fun h' u tk hk => ⟨.str d.shown, H, I.kept hk, ⟨_, rfl⟩, q⟩) hz
end
/-! ### the end of a row, for such a promise -/
theorem law_callG {P : Program} {w : World} {K : PySem.W.Frag} {mg mb : Str → Option Value} {k : Nat} {fa a : Addr} {sp : Sp} {s1 : Shared} {vs : List Value} {ns : List Int}
    (KX : K.In s1.heap) (hns : s1.heap.Ns mainGlobals mg) (hb : s1.heap.Ns builtinsNs mb) (hbb : ∀ x : Str, x ≠ "__name__" → mb x = bootBuiltins x) (hlim : s1.heap.NoLimit) (hg : s1.gens = #[])
    (ha : s1.heap.get? a = some { cls := .type "list", data := .seq vs.toArray }) (hi : IntsAre vs ns) (hl : ns.length ≤ sizeLine) (hr : Room k callerA)
    (F : ∀ base : Heap, K.In base → base.Ns mainGlobals mg → FnG P w K mg base CX0 k fa sp)
    (hsp : ∀ H : Hp, Only H → SqL K H a (ns.map V.int) → sp [.ref a] H (fun v _ => v = .bl true) fun _ _ _ => False) :
    codeAny (model P w) callerA (.call (.ref fa) ⟨[.ref a], []⟩) (fun r s' => r = .ok (.ret (.bool true)) ∧ OldK s1.heap s'.heap ∧ s'.os = s1.os ∧ AllBare s'.gens) s1 := by
  have rv := vals_ints hi
  have lv := hi.length
  have main : ∀ H : Hp, Only H → SqL K H a (ns.map V.int) → HOk P w H s1.heap → (∀ b, H b ≠ none → b = a) → (H a ≠ none → K.lookup a = none) →
      codeAny (model P w) callerA (.call (.ref fa) ⟨[.ref a], []⟩) (fun r s' => r = .ok (.ret (.bool true)) ∧ OldK s1.heap s'.heap ∧ s'.os = s1.os ∧ AllBare s'.gens) s1 := by
    intro H hO hS hok hA hK
    have free : ∀ {b : Addr} {o : Obj} {es : Array DictEntry} {ep : Nat}, s1.heap.get? b = some o → o.data = .dict es ep → H b = none := by
      intro b o es ep e d
      refine Classical.byContradiction fun q => ?_
      cases hA b q
      cases ha.symm.trans e
      cases d
    have nsT : ∀ {b : Addr} {m : Str → Option Value}, s1.heap.Ns b m → (hidT s1.heap H).Ns b m := by
      intro b m ⟨o, es, ep, e, d, r⟩
      exact ⟨o, es, ep, hidT_get e (free e d), d, r⟩
    have KT : K.In (hidT s1.heap H) := by
      intro b o e
      refine hidT_get (KX b o e) (Classical.byContradiction fun q => ?_)
      cases hA b q
      cases (hK q).symm.trans e
    have md : Mod K mg (hidT s1.heap H) := ⟨KT, nsT hns, ⟨mb, nsT hb, hbb⟩, hlim.elim fun mc hc => ⟨mc, nsT hc.1, hc.2⟩⟩
    have en : Env0 P w K mg (hidT s1.heap H) callerA [] s1 H := ⟨rfl, md, fun _ _ e => of_hidT e, Nat.le_of_eq (hidT_size ..), True.intro, fun _ hb => (List.not_mem_nil hb).elim, hok, AllBare.of_eq hg⟩
    refine codeAny_mono (F _ KT (nsT hns) callerA [] s1 H [.ref a] [.ref a] _ _ rfl hr en (.cons rfl .nil) (hsp H hO hS)) fun r s' h => ?_
    match r, h with
    | .error e, h => exact h.elim
    | .ok .next, h => exact h.elim
    | .ok .brk, h => exact h.elim
    | .ok .cont, h => exact h.elim
    | .ok (.ret u), h =>
      obtain ⟨v, H', os, bare, un, hok', rr, q⟩ := h
      cases (show v = .bl true from q)
      cases (show u = Value.bool true from rr)
      refine ⟨rfl, OldK.of_keep fun b o e => ?_, os, bare⟩
      rcases hO b with z | ⟨ob, xs, z⟩
      · exact un.keep b o e z (fun y => (List.not_mem_nil y).elim) (List.not_mem_nil)
      · have t1 := (hok b _ z).1
        have t2 := (hok' b _ (un.frzs b ob _ z)).1
        rw [e] at t1
        cases t1
        exact t2
  cases hk : K.lookup a with
  | some o =>
    cases ha.symm.trans (KX a o hk)
    exact main (fun _ => none) (fun _ => Or.inl rfl) (Or.inr ⟨_, vs.toArray, _, hk, rfl, rfl, rfl, by rw [List.size_toArray, lv]; exact hl, by simpa using rv⟩) (fun b u z => nomatch (show (none : Option HO) = some u from z)) (fun b z => (z rfl).elim) (fun z => (z rfl).elim)
  | none =>
    have hs : ∀ b : Addr, b = a → (if b = a then some (HO.frz { cls := .type "list", data := .seq vs.toArray } (.lst (ns.map V.int))) else none) = some (HO.frz { cls := .type "list", data := .seq vs.toArray } (.lst (ns.map V.int))) := fun b e => if_pos e
    have hn : ∀ b : Addr, b ≠ a → (if b = a then some (HO.frz { cls := .type "list", data := .seq vs.toArray } (.lst (ns.map V.int))) else none) = none := fun b e => if_neg e
    refine main (fun b => if b = a then some (HO.frz { cls := .type "list", data := .seq vs.toArray } (.lst (ns.map V.int))) else none) (fun b => ?_) (Or.inl (Or.inr ⟨_, hs a rfl⟩)) (fun b u z => ?_) (fun b z => Classical.byContradiction fun e => z (hn b e)) (fun _ => hk)
    · by_cases e : b = a
      · exact Or.inr ⟨_, _, hs b e⟩
      · exact Or.inl (hn b e)
    · by_cases e : b = a
      · cases (hs b e).symm.trans z
        subst e
        exact ⟨ha, by rw [List.length_map]; exact hl, vs, _, rv, ha⟩
      · cases (hn b e).symm.trans z
theorem walk_ofG {l : PySem.W.OpenLaw} {n k : Nat} {q : Program} {loose : List Str} {XP : (Str → Option Value) → Heap → Prop} {YP : World → Heap → Prop} {d : DefRec} {K : Params → PySem.W.Frag} {sp : World → Sp}
    (hn : l.most = some n) (hn2 : n ≤ sizeLine) (hdf : d.params.defaults = []) (hr : Room k callerA) (hY : ∀ (w : World) (h : Heap), YP w h → (K w.params).In h)
    (F : ∀ (w : World) (mg : Str → Option Value) (fa : Addr) (h : Heap), (K w.params).In h → h.Ns mainGlobals mg → mg d.name = some (.ref fa) →
      ∀ base : Heap, (K w.params).In base → base.Ns mainGlobals mg → FnG l.prog w (K w.params) mg base CX0 k fa (sp w))
    (hsp : ∀ (w : World) (H : Hp) (a : Addr) (ns : List Int), ns.length ≤ n → Only H → SqL (K w.params) H a (ns.map V.int) → sp w [.ref a] H (fun v _ => v = .bl true) fun _ _ _ => False) :
    PySem.W.WalkO q loose XP YP l.row.toRowW d [] (fun f vs => PySem.call f vs) := by
  refine Att.attach_call hn hdf fun w s0 s1 mg mb fa o pm cd doc a vs ns G Y ho hd hcd hmg hobj hints hlen hg => ?_
  have KX := hY w _ Y
  exact law_callG KX G.T.g G.T.b G.T.builtins G.T.nolimit hg hobj hints (Nat.le_trans hlen hn2) hr (F w mg fa _ KX G.T.g hmg) fun H hO hS => hsp w H a ns hlen hO hS
end FR
set_option Elab.async false
set_option linter.all false
set_option maxRecDepth 100000
/-! repr of data with dicts -/
namespace FR
open PySem PySem.Spec PyProof.Rows L2 TL
def kD : Key → PyData
  | .inl i => .int i
  | .inr x => .str x
mutual
/-- x stands for the datum d, lists, tuples and dicts of this run all the way -/
inductive Dq (H : Hp) : V → PyData → Prop
  | non : Dq H .non .none
  | bl (b : Bool) : Dq H (.bl b) (.bool b)
  | int (i : Int) : Dq H (.int i) (.int i)
  | str (x : Str) : Dq H (.str x) (.str x)
  | lst {a : Addr} {xs : List V} {ds : List PyData} : H a = some (.lst xs) → sysModules < a → DqAll H xs ds → Dq H (.ref a) (.list ds)
  | tup {a : Addr} {xs : List V} {ds : List PyData} : H a = some (.tup xs) → DqAll H xs ds → Dq H (.ref a) (.tuple ds)
  | dct {a : Addr} {kvs : List (Key × V)} {ds : List (PyData × PyData)} : H a = some (.dK kvs) → DqKv H kvs ds → Dq H (.ref a) (.dict ds)
inductive DqAll (H : Hp) : List V → List PyData → Prop
  | nil : DqAll H [] []
  | cons {v : V} {vs : List V} {d : PyData} {ds : List PyData} : Dq H v d → DqAll H vs ds → DqAll H (v :: vs) (d :: ds)
inductive DqKv (H : Hp) : List (Key × V) → List (PyData × PyData) → Prop
  | nil : DqKv H [] []
  | cons {k : Key} {v : V} {vs : List (Key × V)} {d : PyData} {ds : List (PyData × PyData)} : Dq H v d → DqKv H vs ds → DqKv H ((k, v) :: vs) ((kD k, d) :: ds)
end
section
variable {X : Cx} {pins : List (Addr × Obj)} {σ : L2.St} {H : Hp} {s : Shared}
theorem kD_reads (k : Key) {u : Value} (h : keyIs k u = true) : Reads s.heap u (kD k) [] := by
  rcases keyIs_shape h with ⟨i, t, rfl, rfl⟩ | ⟨x, t, rfl, rfl⟩
  · exact .int i t
  · exact .str x t
mutual
theorem Dq.reads (I : Inv X pins σ H s) : ∀ (d : PyData) (v : V) (u : Value), Dq H v d → RelV v u → ∃ as, Reads s.heap u d as ∧ sysModules ∉ as
  | .none, _, _, h, r => by
    cases h
    cases r
    exact ⟨_, Reads.none, by simp⟩
  | .bool b, _, _, h, r => by
    cases h
    cases r
    exact ⟨_, Reads.bool b, by simp⟩
  | .int i, _, _, h, r => by
    cases h
    obtain ⟨t, rfl⟩ := r
    exact ⟨_, Reads.int i t, by simp⟩
  | .str x, _, _, h, r => by
    cases h
    obtain ⟨t, rfl⟩ := r
    exact ⟨_, Reads.str x t, by simp⟩
  | .list ds, _, _, h, r => by
    cases h with
    | lst hs hb ha =>
      cases r
      obtain ⟨_, its, n, rv, e⟩ := (show ObjOk X.prog X.w H s.heap _ (.lst _) from I.hok _ _ hs)
      obtain ⟨as, q, z⟩ := Dq.readsAll I ds _ _ ha rv
      exact ⟨_, Reads.list e rfl rfl q, fun h => (List.mem_cons.mp h).elim (fun e => by rw [← e] at hb; exact absurd hb (Nat.lt_irrefl _)) z⟩
  | .tuple ds, _, _, h, r => by
    cases h with
    | tup hs ha =>
      cases r
      obtain ⟨_, its, rv, o, e, hc, n, hd⟩ := (show ObjOk X.prog X.w H s.heap _ (.tup _) from I.hok _ _ hs)
      obtain ⟨as, q, z⟩ := Dq.readsAll I ds _ _ ha rv
      exact ⟨_, Reads.tuple e hc hd q, z⟩
  | .dict ds, _, _, h, r => by
    cases h with
    | dct hs ha =>
      cases r
      obtain ⟨_, ns, vs, kv, o, es, ep, e, hx, hd, _, hp, _⟩ := (show ObjOk X.prog X.w H s.heap _ (.dK _) from I.hok _ _ hs)
      obtain ⟨bs, q1, q2, z⟩ := Dq.readsKv I ds _ _ es.toList ha kv hp
      exact ⟨_, Reads.dict e hx.1 hd q1 q2, fun h => (List.mem_append.mp h).elim (fun h => (List.mem_cons.mp h).elim (fun e => by rw [← e] at ns; simp at ns) (fun h => by simp at h)) z⟩
theorem Dq.readsAll (I : Inv X pins σ H s) : ∀ (ds : List PyData) (vs : List V) (us : List Value), DqAll H vs ds → Vals vs us → ∃ as, ReadsAll s.heap us ds as ∧ sysModules ∉ as
  | [], _, _, h, r => by
    cases h
    cases r
    exact ⟨_, ReadsAll.nil, by simp⟩
  | d :: ds, _, _, h, r => by
    cases h with
    | cons h1 h2 =>
      cases r with
      | cons r1 r2 =>
        obtain ⟨as, q1, z1⟩ := Dq.reads I d _ _ h1 r1
        obtain ⟨bs, q2, z2⟩ := Dq.readsAll I ds _ _ h2 r2
        exact ⟨_, ReadsAll.cons q1 q2, fun h => (List.mem_append.mp h).elim z1 z2⟩
theorem Dq.readsKv (I : Inv X pins σ H s) : ∀ (ds : List (PyData × PyData)) (kvs : List (Key × V)) (vs : List (Key × Value)) (es : List DictEntry), DqKv H kvs ds → KV kvs vs → Pairs (mixKind X.prog X.w) es vs →
    ∃ bs, ReadsAll s.heap (es.map (·.key)) (ds.map (·.1)) [] ∧ ReadsAll s.heap (es.map (·.val)) (ds.map (·.2)) bs ∧ sysModules ∉ bs
  | [], _, _, _, h, r, p => by
    cases h
    cases r
    cases p
    exact ⟨_, ReadsAll.nil, ReadsAll.nil, by simp⟩
  | d :: ds, _, _, _, h, r, p => by
    cases h with
    | cons h1 h2 =>
      cases r with
      | cons r1 r2 =>
        cases p with
        | cons p1 p2 p3 =>
          obtain ⟨as, q1, z1⟩ := Dq.reads I _ _ _ h1 r1.2
          obtain ⟨bs, q2, q3, z2⟩ := Dq.readsKv I ds _ _ _ h2 r2 p3
          have p1' := p1
          rw [← r1.1] at p1'
          refine ⟨_, ?_, ?_, fun h => (List.mem_append.mp h).elim z1 z2⟩
          · exact ReadsAll.cons (as := []) (bs := []) (kD_reads _ (show keyIs _ _ = true from p1')) q2
          · rw [List.map_cons, List.map_cons, p2]
            exact ReadsAll.cons q1 q3
end
end
/-! lists at an address behind sysModules -/
structure NewS (o : HO) (Q : VK) (H : Hp) : Prop where
  to : ∀ (p : Addr) (H' : Hp), H p = none → sysModules < p → Keep [] H H' → H' p = some o → Q (.ref p) H'
section
variable {X : Cx} {es : List Expr} {t : TA} {pos : Pos}
def tLstS (t : TA) : TE := fun σ H Q => t σ H fun xs H1 => xs.length ≤ sizeLine ∧ NewS (.lst xs) Q H1
theorem pe_lstS (h : PA X es t) : PE X (.List es pos) (tLstS t) := by
  refine ⟨fun pins s σ H Q I hq => wpAny_List_spliced (thn (h.run _ pins s σ H _ I hq) fun us s1 hh => ?_)⟩
  obtain ⟨xs, H1, I1, r, z, q⟩ := hh
  refine ⟨by rw [← r.length]; exact z, .ref s1.heap.objs.size, upd H1 s1.heap.objs.size (.lst xs), I1.laid (t' := s1.toks) (fun _ _ e => Heap.get?_push_of_some _ e) (Nat.le_refl _) ⟨z, us, 0, r, Heap.get?_push_size _ rfl⟩, rfl, ?_⟩
  exact q.to _ _ (I1.hok.fresh (Nat.le_refl _)) I1.big (keep_new (I1.hok.fresh (Nat.le_refl _))) upd_same
end
section
variable {X : Cx}
def rReprQ : List V → Hp → VK → Prop := fun xs H Q => ∃ (p : Addr) (d : PyData), xs = [.ref p] ∧ Dq H (.ref p) d ∧ d.showable = true ∧ d.depth ≤ 50 ∧ d.shown.length ≤ sizeLine ∧ Q (.str d.shown) H
theorem call_reprQ (hgd : X.A.guards = some []) (hu : X.A.units + 65 < cLine) : CallR X (.builtin "repr") rReprQ := fun pins s σ H xs us Q I r h => by
  obtain ⟨p, d, rfl, hd, hs, hdp, hz, q⟩ := h
  obtain ⟨u, rfl, ru⟩ : ∃ u, us = [u] ∧ RelV (.ref p) u := by
    cases r with
    | cons a b => cases b; exact ⟨_, rfl, a⟩
  cases (show u = Value.ref p from ru)
  obtain ⟨as, rd, hsm⟩ := Dq.reads I d _ _ hd ru
  exact repr_of_reads' rd hs (fun _ => hsm) hgd (by omega) (fun _ _ e => e) (fun h' u tk hk => ⟨.str d.shown, H, I.kept hk, ⟨_, rfl⟩, q⟩) hz
end
end FR
set_option Elab.async false
set_option linter.all false
set_option maxRecDepth 100000
set_option maxHeartbeats 2000000
/-! exceptions of the program with one field, value -/
namespace PySem
namespace ExV
open PySem.W PySem.Calls PyProof.Rows PySem.HandSPX
/-! ### the text of __init__ -/
def iA (p1 p2 : Pos) : Arguments := { posonlyargs := [], args := [{ arg := "self", annotation := none, pos := p1 }, { arg := "value", annotation := none, pos := p2 }], vararg := none, kwonlyargs := [], kw_defaults := [], kwarg := none, defaults := [] }
def iB (q1 q2 q3 q4 : Pos) : List Stmt := [.Assign [.Attribute (.Name "self" q1) "value" q2] (.Name "value" q3) q4]
def iS : Scope := { kind := .function, names := [(PySem.Str.ofString "self", .local), (PySem.Str.ofString "value", .local)], isGenerator := false, isCoroutine := false, more := [] }
/-- what the written part says of Low, at C, and of its __init__, at fI -/
structure LowTxt (K : Frag) (mg : Str → Option Value) (cn qn : Str) (C fI : Addr) : Prop where
  gC : mg cn = some (.ref C)
  cls : ∃ nm q N bs bm sn sub ab col dd k0 k1 k2 k3 k5, K.lookup C = some (excClassObj nm q C N bs bm true sn sub ab col dd k0 k1 k2 k3 k5 "ValueError.__new__") ∧ refsVE bm = true
  sa : findIn K (.ref C) "__setattr__" = some (some (.builtin "object.__setattr__"))
  ga : findIn K (.ref C) "__getattribute__" = some (some (.builtin "BaseException.__getattribute__"))
  gg : findIn K (.ref C) "__getattr__" = some none
  noN : findIn K (.ref C) "value" = some none
  iC : findIn K (.ref C) "__init__" = some (some (.ref fI))
  tC : typeIn K (.ref fI) = some (.type "function")
  kC : keepIn K (.ref C) = true
  exC : subIn K (.ref C) (.type "BaseException") = some true
  tyC : typeIn K (.ref C) = some (.type "type")
  hdC : hasDictIn K C = true
  te : exmOne K (.ref C) (.ref C) = some true
  fn : ∃ (oc : Value) (od : Option Addr) (doc pm : Value) (an : Option Addr) (cdv ct : Value) (osl : Array (Option Value)) (p1 p2 q1 q2 q3 q4 : Pos),
    K.lookup fI = some ⟨oc, od, .func (fnOf "__init__" qn (iA p1 p2) (iB q1 q2 q3 q4) iS .none .none doc pm an cdv ct), osl⟩ ∧ codeIn K cdv qn = true
theorem one_size (v : Value) : [v].length ≤ sizeLine := by
  rw [sizeLine_eq]
  exact (by decide : 1 ≤ 16777216)
theorem kept_but {K : Frag} {h h' : Heap} {x : Addr} (X : K.In h) (hx : K.lookup x = none) (k : ∀ b o, b ≠ x → h.get? b = some o → h'.get? b = some o) : K.In h' := fun a o e =>
  k a o (fun z => by rw [z, hx] at e; cases e) (X a o e)
theorem ldC {M : Model} {s : Shared} {name : Str} {scope : Scope} {L a : Addr} {cd : Value} {m : Str → Option Value} {x : Str} {pos : Pos} {v : Value} {Q : Value → Shared → Prop} {A : Around} {E : Value → Shared → Prop} (hn : s.heap.Ns L m) (hv : m x = some v) (h : Q v s)
    (hk : scope.kind = .function := by rfl) (hl : (envOfC name scope L a cd).kindOf x = some .local := by rfl) (hd : (x == ("__debug__" : Str)) = false := by decide) :
    wpAny M A (eval (.Name x pos) (envOfC name scope L a cd)) Q E s := wpAny_Name (wpAny_loadName_local hk hl hn hv h) hd
/-- what __init__ leaves of a fresh exception at x -/
structure InitEnd (h h' : Heap) (x C dx t1 : Addr) (v : Value) : Prop where
  keep : ∀ b o, b ≠ x → h.get? b = some o → h'.get? b = some o
  obj : h'.get? x = some { cls := .ref C, dict := some dx, data := .fields #[.ref t1, .none, .none, .none, .bool false, .none] }
  dbig : h.objs.size ≤ dx
  dne : dx ≠ x
  ns : h'.Ns1 dx (fun y => if y = "value" then some v else none)
/-- a made Low -/
structure OwnMade (h h' : Heap) (e C d : Addr) (v : Value) : Prop where
  keep : ∀ b o, h.get? b = some o → h'.get? b = some o
  new : h.objs.size ≤ e
  obj : ∃ oe vs, h'.get? e = some oe ∧ oe.cls = .ref C ∧ oe.dict = some d ∧ oe.data = .fields vs ∧ vs[1]? = some .none
  dbig : h.objs.size ≤ d
  dne : d ≠ e
  ns : h'.Ns1 d (fun y => if y = "value" then some v else none)
section
variable {prog : Program} {w : World} {A : Around} {E : Value → Shared → Prop} {R : Result → Shared → Prop} {s : Shared} {K : Frag} {mg : Str → Option Value} {C fI : Addr} {cn qn : Str}
theorem low_init (T : LowTxt K mg cn qn C fI) {x t0 : Addr} {v : Value} (X : K.In s.heap) (hlim : s.heap.NoLimit) (hx : s.heap.get? x = some (excO C t0)) (hnx : K.lookup x = none) (hroom : A.depth < recursionLimit)
    (hq : ∀ h' tk dx, InitEnd s.heap h' x C dx t0 v → R (.ok (.ret .none)) { s with heap := h', toks := tk }) :
    codeAny (model prog w) A (.call (.ref fI) ⟨[.ref x, v], []⟩) R s := by
  obtain ⟨oc, od, doc, pm, an, cdv, ct, osl, p1, p2, q1, q2, q3, q4, ho, hcd⟩ := T.fn
  obtain ⟨nm, q, N, bs, bm, sn, sub, ab, col, dd, k0, k1, k2, k3, k5, hC, hbm⟩ := T.cls
  have hcl : clsIn K C = some { name := nm, bases := bs, mro := .ref C :: bm, ns := N, qualname := q, hasDict := true, slotNames := sn, subclasses := sub, abstract := ab, collection := col, hasDel := false } := by unfold clsIn; rw [hC] <;> rfl
  refine Att.call_fn (binds := [("self", .ref x), ("value", v)]) X hlim ho hcd hroom (BindsTo.of_eq (by first | rfl | with_unfolding_all rfl)) (by first | rfl | decide | with_unfolding_all rfl) (fun s₁ IC => ?_) rfl rfl rfl
  obtain ⟨h₁, tk₁, rfl⟩ := IC.toInCall.same
  have k : ∀ b o, s.heap.get? b = some o → h₁.get? b = some o := IC.toInCall.keep
  have hn := IC.toInCall.ns
  have hxL : s.heap.objs.size ≠ x := Nat.ne_of_gt (Heap.lt_size hx)
  have X₁ : K.In h₁ := X.keeps k
  have hx₁ := k _ _ hx
  -- self.by = by
  show wpAny _ _ (execs _ _) _ _ _
  refine wpAny_execs_cons (plainObj_wpAny_Assign_Attribute ?_)
  refine ldC (v := v) hn (by first | rfl | with_unfolding_all rfl | kernel_rfl) (ldC (v := .ref x) hn (by first | rfl | with_unfolding_all rfl | kernel_rfl) ?_)
  refine set_plain X₁ (ox := excO C t0) (od := none) ⟨hx₁, rfl, rfl, trivial⟩ T.sa ?_
  refine exc_osa X₁ hx₁ hcl (show refsVE (.ref C :: bm) = true from hbm) rfl T.noN (fun h₃ tk₃ dx k₃ dn dne hx₃ hn₃ => ?_)
  show wpAny _ _ (execs _ _) _ _ _
  have z : s.heap.objs.size < h₁.objs.size := hn.lt
  exact wpAny_execs_nil (hq h₃ tk₃ dx ⟨fun b o hb e => k₃ b o hb (k b o e), hx₃, Nat.le_of_lt (Nat.lt_of_lt_of_le z dn), dne, hn₃⟩)
theorem low_made (T : LowTxt K mg cn qn C fI) {v : Value} (X : K.In s.heap) (hlim : s.heap.NoLimit) (hroom : A.depth + 1 < recursionLimit)
    (hq : ∀ h' tk e d, OwnMade s.heap h' e C d v → R (.ok (.ret (.ref e))) { s with heap := h', toks := tk }) :
    codeAny (model prog w) A (.call (.ref C) ⟨[v], []⟩) R s := by
  obtain ⟨nm, q, N, bs, bm, sn, sub, ab, col, dd, k0, k1, k2, k3, k5, hC, hbm⟩ := T.cls
  obtain ⟨hp, g, dr, tk, os⟩ := s
  have k : ∀ b o, hp.get? b = some o → ((hp.push (kdv_tup [v])).push (excO C hp.objs.size)).get? b = some o := fun b o e => Heap.get?_push_of_some _ (Heap.get?_push_of_some _ e)
  have hget : ((hp.push (kdv_tup [v])).push (excO C hp.objs.size)).get? (hp.objs.size + 1) = some (excO C hp.objs.size) := by heap_get
  have hnx : K.lookup (hp.objs.size + 1) = none := by
    cases e : K.lookup (hp.objs.size + 1) with
    | none => rfl
    | some o =>
      have z : hp.get? (hp.objs.size + 1) = some o := X _ _ e
      exact absurd (Nat.lt_of_succ_lt (Heap.lt_size z)) (Nat.lt_irrefl _)
  refine call_own F.excBase_ValueError (fun X => refsVE_contains X bm hbm) (X _ _ hC) (looks_findIn X T.iC) (fun self => bind_fn X self T.tC) (one_size v) ?_
  refine low_init (s := ⟨(hp.push (kdv_tup [v])).push (excO C hp.objs.size), g, dr, tk, os⟩) T (X.keeps k) (hlim.keeps k) hget hnx ?_ fun h' tk' dx ⟨k', hx, dn, dne, hns⟩ => ?_
  · show A.depth + 1 < recursionLimit
    exact hroom
  · have old : ∀ b o, hp.get? b = some o → h'.get? b = some o := fun b o e => k' b o (Nat.ne_of_lt (Nat.lt_succ_of_lt (Heap.lt_size e))) (k b o e)
    have z : hp.objs.size + 1 + 1 ≤ dx := by
      first
        | (simpa only [Heap.size_push] using dn)
        | exact dn
        | (have q := dn; rw [Heap.size_push, Heap.size_push] at q; exact q)
    exact ⟨rfl, hq h' tk' (hp.objs.size + 1) dx ⟨old, Nat.le_succ _, ⟨_, _, hx, rfl, rfl, rfl, rfl⟩, Nat.le_trans (Nat.le_trans (Nat.le_succ _) (Nat.le_succ _)) z, dne, hns⟩⟩
end
end ExV
end PySem
namespace L2
open PySem PySem.Spec PyProof.Rows
theorem relO_low {v : V} {v' : Value} (r : RelV v v') (f : Str) : RelO (List.lookup f [(("value" : Str), v)]) (if f = "value" then some v' else none) := by
  by_cases hw : f = "value"
  · subst hw
    rw [if_pos rfl]
    have q : List.lookup ("value" : Str) [(("value" : Str), v)] = some v := by simp [List.lookup]
    rw [q]
    exact r
  · rw [if_neg hw]
    have qw : (f == ("value" : Str)) = false := by simpa using hw
    have q2 : List.lookup f [(("value" : Str), v)] = none := by simp [List.lookup, qw]
    rw [q2]
    trivial
section
variable {X : Cx} {C fI : Addr} {cn qn : Str}
/-- Low(e) -/
def tMkLow (C : Addr) (ta : TA) : St → Hp → XK → Prop := fun σ H Q => ta σ H fun vs H1 => ∃ v, vs = [v] ∧ ∀ d, H1 d = none → Q (.ref C) (some d) (upd H1 d (.xd [(("value" : Str), v)]))
theorem pmk_low {a : Expr} {ta : TA} {p pos : Pos} {k : Nat} (T : PySem.ExV.LowTxt X.K X.mg cn qn C fI) (hr : Room k X.A) (ha : PA X [a] ta) (hdb : (cn == ("__debug__" : Str)) = false := by decide) (hg : Gl X cn := by rfl)
    (he : starEach (a :: []) X.env = (false, eval a X.env) :: starEach [] X.env := by rfl) (hpl : (backTo pos (starEach [] X.env)).any (·.1) = false := by rfl) :
    PMk X (.Call (.Name cn p) [a] [] pos) (tMkLow C ta) := by
  intro pins s σ H Q I h
  refine wpAny_Call_Name_kw (ld_glob I hg T.gC ?_ hdb)
  refine PySem.W.callWith_K (h₀ := X.base) I.ok.mod.kin T.kC (thn (ha.run pos pins s σ H _ I h) fun us s1 hh => ?_) he hpl
  obtain ⟨vs, H1, I1, r1, v, ev, q1⟩ := hh
  subst ev
  refine ⟨I1.kIn, ?_⟩
  cases r1 with
  | cons rv rn =>
    rename_i v' us'
    cases rn
    show wpAny _ _ (call (.ref C) [v']) _ _ _
    have hlim := I1.nolimit
    obtain ⟨hp, g, dr, tk, os⟩ := s1
    refine wpAny_call (PySem.ExV.low_made T I1.kIn hlim (by have := hr.dp; omega) fun h' tk' e d M => ?_)
    show MkP X pins σ Q (.ref e) ⟨h', g, dr, tk', os⟩
    obtain ⟨oe, fv, hoe, hc, hd, hdat, h1⟩ := M.obj
    have hns := M.ns
    obtain ⟨G', g1, g2⟩ := restrict h' fun b => decide (b ≠ e)
    have gk : ∀ b, b ≠ e → G'.get? b = h'.get? b := fun b hb => g1 b (decide_eq_true hb)
    have ge : G'.get? e = none := g2 e (by simp)
    have old : ∀ b o, hp.get? b = some o → G'.get? b = some o := fun b o q => (gk b (Nat.ne_of_lt (Nat.lt_of_lt_of_le (Heap.lt_size q) M.new))).trans (M.keep b o q)
    have ob : ObjOk X.prog X.w (upd H1 d (.xd [(("value" : Str), v)])) G' d (.xd [(("value" : Str), v)]) :=
      ⟨_, hns.at (fun o q => (gk d M.dne).trans q), fun f => relO_low rv f⟩
    have J : Inv X pins σ (upd H1 d (.xd [(("value" : Str), v)])) ⟨G', g, dr, tk', os⟩ := I1.laid (t' := tk') old M.dbig ob
    refine ⟨e, oe, fv, ⟨G', g, dr, tk', os⟩, _, .ref C, some d, rfl, J, fun b o q => ?_, ge, hoe, ⟨hc, hd⟩, hdat, h1, ?_, rfl, I1.bare, raises_own T.exC T.tyC, q1 d (I1.hok.fresh M.dbig)⟩
    · by_cases hb : b = e
      · have q' : G'.get? b = some o := q
        rw [hb, ge] at q'; cases q'
      · exact (gk b hb).symm.trans q
    · rw [upd_ne (Ne.symm M.dne)]
      exact I1.hok.fresh M.new
/-- raise Low(e) -/
def tRaiseLow (C : Addr) (W : WX) (ta : TA) : TS := fun _ σ H => tMkLow C ta σ H fun cls d H' => W cls d σ H'
theorem ps_raiseLow {a : Expr} {ta : TA} {W : WX} {p pos pos2 : Pos} {k : Nat} (hc : X.calm = true) (T : PySem.ExV.LowTxt X.K X.mg cn qn C fI) (hr : Room k X.A) (tk : Takes X W) (ha : PA X [a] ta) (hdb : (cn == ("__debug__" : Str)) = false := by decide) (hg : Gl X cn := by rfl)
    (he : starEach (a :: []) X.env = (false, eval a X.env) :: starEach [] X.env := by rfl) (hpl : (backTo pos (starEach [] X.env)).any (·.1) = false := by rfl) :
    PS X (.Raise (some (.Call (.Name cn p) [a] [] pos)) none pos2) (tRaiseLow C W ta) := ps_raise hc tk (pmk_low T hr ha hdb hg he hpl)
/-- low.by, low the exception that the suite holds (at a; its class cls, its dict d) -/
def tByLow (C : Addr) (a : Addr) (cls : Value) (d : Option Addr) (te : TE) : TE := fun σ H Q => te σ H fun x H1 => x = .ref a ∧ cls = .ref C ∧ ∃ (dd : Addr) (v : V), d = some dd ∧ H1 dd = some (.xd [(("value" : Str), v)]) ∧ Q v H1
theorem pe_byLow {a : Addr} {oe : Obj} {cls : Value} {d : Option Addr} {pn : List (Addr × Obj)} {e : Expr} {te : TE} {pos : Pos} (T : PySem.ExV.LowTxt X.K X.mg cn qn C fI) (hz : Zc cls d oe) (hf : ∃ vs, oe.data = .fields vs) (he : PE (X.suite a ((a, oe) :: pn)) e te)
    (hb : attributeBase e "value" X.env (eval e X.env) = eval e X.env := by rfl) :
    PE (X.suite a ((a, oe) :: pn)) (.Attribute e "value" pos) (tByLow C a cls d te) := by
  refine ⟨fun pins s σ H Q I h => ?_⟩
  refine attr_of hb (thn (he.run pins s σ H _ I h) fun u s1 hh => ?_)
  obtain ⟨x, H1, I1, rx, ex, ec, dd, v, ed, ea, q⟩ := hh
  subst ex
  obtain rfl : u = Value.ref a := rx
  subst ec
  subst ed
  obtain ⟨ha, _⟩ := I1.pin (a, oe) (List.mem_append_left _ List.mem_cons_self)
  obtain ⟨vs, hd⟩ := hf
  have hx : ObjOk X.prog X.w H1 s1.heap dd (.xd [(("value" : Str), v)]) := I1.hok dd _ ea
  obtain ⟨mA, hns, hr⟩ := hx
  obtain ⟨od, ho, hl⟩ := lookIn_ns hns
  have l : List.lookup ("value" : Str) [(("value" : Str), v)] = some v := by simp [List.lookup]
  obtain ⟨u, hu, ru⟩ := RelO.some_of (v := v) (o := mA "value") (by rw [← l]; exact hr "value")
  have J : PySem.W.InstAt s1.heap a oe C (some od) := ⟨ha, hz.1, by unfold PySem.W.notCls; rw [hd] <;> rfl, by rw [hz.2]; exact ho⟩
  exact HandSPX.exc_get I1.kIn J T.ga T.gg T.exC (PySem.W.findObj_own T.hdC T.noN rfl (by rw [hl, hu])) (handed_of ru) ⟨v, H1, I1.tok _, ru, q⟩
end
end L2
set_option Elab.async false
set_option linter.all false
set_option maxRecDepth 100000
set_option maxHeartbeats 2000000
/-! try with several clauses «except C as n» of one name; what no clause takes does not come -/
namespace FR
open PySem PySem.Spec PyProof.Rows L2 TL
/-- behind a suite the clause's name is gone -/
def gone (i : Nat) (D : Ends) : Ends := { nx := fun σ H => D.nx (σ.set i none) H, rt := D.rt, bk := fun σ H => D.bk (σ.set i none) H, ct := fun σ H => D.ct (σ.set i none) H }
def wAsM (K : PySem.W.Frag) (i : Nat) (D : Ends) : List (Value × (Addr → Value → Option Addr → TS)) → WX
  | [] => fun _ _ _ _ => False
  | (c, ts) :: r => fun cls d σ H => ∃ b, PySem.W.exmOne K cls c = some b ∧ (b = true → ∀ a, H a = none → ts a cls d (gone i D) (σ.set i (some (.ref a))) H) ∧ (b = false → wAsM K i D r cls d σ H)
inductive ClausesOk (X : Cx) (n : Str) : List ExceptHandler → List (Value × (Addr → Value → Option Addr → TS)) → Prop
  | nil : ClausesOk X n [] []
  | cons {x : Str} {c : Value} {ts : Addr → Value → Option Addr → TS} {st : Stmt} {sts : List Stmt} {p1 p2 : Pos} {hds : List ExceptHandler} {l : List (Value × (Addr → Value → Option Addr → TS))} (hc : Names X x c)
      (hsu : ∀ (a : Addr) (oe : Obj) (cls : Value) (d : Option Addr) (pn : List (Addr × Obj)), Zc cls d oe → (∃ vs, oe.data = .fields vs) → PSs (X.suite a ((a, oe) :: pn)) (st :: sts) (ts a cls d)) (r : ClausesOk X n hds l) :
      ClausesOk X n (.ExceptHandler (some (.Name x p1)) (some n) (st :: sts) p2 :: hds) ((c, ts) :: l)
section
variable {X : Cx} {n : Str} {i : Nat} {body : List Stmt} {hd0 : ExceptHandler} {hds : List ExceptHandler} {l : List (Value × (Addr → Value → Option Addr → TS))} {pos : Pos} {tb : WX → TS}
theorem ps_try_asM (hs : X.stack = X.env :: X.outer) (hf : X.env.frame = some X.env.locals) (hN : X.N.Nodup) (hi : X.N[i]? = some n) (hln : X.env.kindOf n = some .local)
    (hb : ∀ (W : WX) (pn : List (Addr × Obj)) (xe : Value → Shared → Prop), Takes (X.tr pn xe) W → PassesOwn (model X.prog X.w) X.A X.env xe → PSs (X.tr pn xe) body (tb W))
    (hh : ClausesOk X n (hd0 :: hds) l) : PS X (.Try body (hd0 :: hds) [] [] pos) (fun D σ H => tb (wAsM X.K i D l) D σ H) := by
  refine ⟨fun pins s σ H D I h => wpAny_Try_except ?_⟩
  have okX := I.ok
  have fr : X.A.frames = some (X.env :: X.outer) := by rw [okX.frames, hs]
  let land : Value → Shared → Prop := fun e s1 => wpAny (model X.prog X.w) X.A (noteFrame e X.env) (fun _ s2 => wpAny (model X.prog X.w) X.A (setFlight e none) (fun _ s3 => wpAny (model X.prog X.w) X.A (handleBy e X.env (hd0 :: hds)) (SP X pins D) X.xe s3) X.xe s2) X.xe s1
  have caught : ∀ (u : Value) (s1 : Shared), XE (X.tr (X.pn ++ pins) land) (wAsM X.K i D l) u s1 → land u s1 := by
    intro u s1 xx
    obtain ⟨a, B, sI, _, σ1, H1, cls, d, rfl, J0, nb, up, sky, na, os, ag, w⟩ := xx
    have J : Inv X pins σ1 H1 sI := J0.ofTry okX
    show wpAny (model X.prog X.w) X.A (noteFrame (.ref a) X.env) _ _ _
    refine Sky.land Zc.steady fr hf (by rw [← hs]; exact sky) fun g1 fl1 up1 => ?_
    have K1 : Inv X pins σ1 H1 { s1 with heap := g1 } := J.landed nb fl1.1 (up.trans up1) os ag
    obtain ⟨ob, fv, e1, z1, d1⟩ := fl1.there
    have out : a ∉ frs (X.env :: X.outer) := fun m => by
      obtain ⟨_, o2, e2, q⟩ := fl1.2.2.1.mem m
      cases e1.symm.trans e2
      exact q _ d1
    have n1 : a ≠ X.env.locals := fun z => out (List.mem_filterMap.mpr ⟨_, List.mem_cons_self, by rw [hf, z]⟩)
    have n2 : a ∉ X.fs := fun m => by
      obtain ⟨e2, m2, q⟩ := List.mem_filterMap.mp m
      exact out (List.mem_filterMap.mpr ⟨e2, List.mem_cons_of_mem _ m2, q⟩)
    have S1 := K1.suite e1 d1 na n1 n2
    have each : ∀ {cs : List ExceptHandler} {ws : List (Value × (Addr → Value → Option Addr → TS))}, ClausesOk X n cs ws → wAsM X.K i D ws cls d σ1 H1 → wpAny (model X.prog X.w) X.A (handleBy (.ref a) X.env cs) (SP X pins D) X.xe { s1 with heap := g1 } := by
      intro cs ws ck
      induction ck with
      | nil => exact fun z => z.elim
      | @cons x c ts st sts p1 p2 more wmore hc hsu _ ih =>
        rintro ⟨b, hm, yes, no⟩
        refine wpAny_handleBy_cons (codeAny_handlers_test ?_) (fun q => by cases q)
        have ty : PySem.W.Looks (model X.prog X.w) g1 (typeOf (.ref a)) cls := fun _ _ _ _ k q => wpAny_typeOf_ref (k _ _ e1) (by rw [z1.1]; exact q)
        have one := PySem.W.exm_one (M := model X.prog X.w) K1.kIn ty hm
        have named : ∀ {Q E : Value → Shared → Prop}, Q c { s1 with heap := g1 } → wpAny (model X.prog X.w) (X.A.mark (some (.ref a))) (eval (.Name x p1) X.env) Q E { s1 with heap := g1 } := by
          intro Q E q
          obtain ⟨y1, y2, y3 | ⟨y3, y4, y5⟩⟩ := hc
          · exact ld_glob (X := X.suite a ((a, ob) :: (X.pn ++ pins))) S1 y1 y3 q y2
          · exact ld_blt (X := X.suite a ((a, ob) :: (X.pn ++ pins))) S1 y1 y3 y4 q y5 y2
        refine named (one.here ?_)
        cases b with
        | false => exact ih (no rfl)
        | true =>
          refine codeAny_handlers_suite_as (HandSPX.lands_againZ fl1 fun g2 fl2 up2 => ?_)
          obtain ⟨oc, fw, e2, z2, d2⟩ := fl2.there
          have K2 : Inv X pins σ1 H1 { s1 with heap := g2 } := J.landed nb fl2.1 ((up.trans up1).trans up2) os ag
          have S2 := K2.suite e2 d2 na n1 n2
          refine store_ok (X := X.suite a ((a, oc) :: (X.pn ++ pins))) (v := .ref a) S2 hN hi (.inl hln) rfl (fun s5 S5 => ?_) (.inr hln)
          refine wpAny_mono ((hsu a oc cls d (X.pn ++ pins) z2 ⟨_, d2⟩).run [] s5 _ H1 _ S5 (yes rfl a na)) (fun f s6 hz => ?_) (fun _ _ z => z.elim)
          have ends : ∀ {σ6 : L2.St} {H6 : Hp} {Q : Shared → Prop}, Inv (X.suite a ((a, oc) :: (X.pn ++ pins))) [] σ6 H6 s6 → (∀ s7, Inv X pins (σ6.set i none) H6 s7 → Q s7) → wpAny (model X.prog X.w) X.A (do bindName X.env n .none; unbindBehindTheSuite X.env n p2) (fun _ s7 => Q s7) X.xe s6 :=
            fun S6 hq => gone_ok (S6.unsuite okX) hN hi hln hq
          match f, hz with
          | .next, ⟨_, _, S6, q6⟩ => exact ends S6 fun _ J7 => ⟨_, _, J7, q6⟩
          | .brk, ⟨_, _, S6, q6⟩ => exact ends S6 fun _ J7 => ⟨_, _, J7, q6⟩
          | .cont, ⟨_, _, S6, q6⟩ => exact ends S6 fun _ J7 => ⟨_, _, J7, q6⟩
          | .ret _, ⟨_, _, _, S6, r6, q6⟩ => exact ends S6 fun _ J7 => ⟨_, _, _, J7, r6, q6⟩
    exact each hh w
  refine wpAny_mono ((hb _ _ land caught PassesOwn.looking).run [] s σ H D (I.toTry _) h) (fun f s1 hz => ?_) (fun _ _ z => z)
  match f, hz with
  | .next, ⟨_, _, J, q⟩ => exact wpAny_execs_nil ⟨_, _, J.ofTry okX, q⟩
  | .brk, ⟨_, _, J, q⟩ => exact ⟨_, _, J.ofTry okX, q⟩
  | .cont, ⟨_, _, J, q⟩ => exact ⟨_, _, J.ofTry okX, q⟩
  | .ret _, ⟨_, _, _, J, r, q⟩ => exact ⟨_, _, _, J.ofTry okX, r, q⟩
end
end FR
set_option Elab.async false
set_option linter.all false
set_option maxRecDepth 100000
/-! isinstance of the exception that a suite holds, one with fields -/
namespace FR
open PySem PySem.Spec PyProof.Rows L2 TL
/-- the exception that the suite holds is one of the class D, with its own dict -/
def HeldE (K : PySem.W.Frag) (cls : Value) (d : Option Addr) (H : Hp) (D : Addr) : Prop := cls = .ref D ∧ ExcC K D ∧ ∃ (dd : Addr) (fs : List (Str × V)), d = some dd ∧ H dd = some (.xd fs)
section
variable {X : Cx} {a : Addr} {oe : Obj} {pn : List (Addr × Obj)} {cls : Value} {d : Option Addr} {pins : List (Addr × Obj)} {σ : L2.St} {H : Hp} {s : Shared} {D : Addr}
theorem kit_held (hz : Zc cls d oe) (hf : ∃ vs, oe.data = .fields vs) (I : Inv (X.suite a ((a, oe) :: pn)) pins σ H s) (h : HeldE X.K cls d H D) : ∃ od, PySem.W.KitX X.K (.ref a) (.ref D) (fun g => PySem.W.InstAt g a oe D (some od)) ∧ PySem.W.InstAt s.heap a oe D (some od) := by
  obtain ⟨rfl, C, dd, fs, rfl, hx⟩ := h
  obtain ⟨hget, _⟩ := I.pin (a, oe) (List.mem_append_left _ List.mem_cons_self)
  obtain ⟨vs, hv⟩ := hf
  obtain ⟨mA, hns, _⟩ := (show ObjOk X.prog X.w H s.heap dd (.xd fs) from I.hok dd _ hx)
  obtain ⟨od, ho, _⟩ := lookIn_ns hns
  obtain ⟨cd, hc, _⟩ := PySem.W.any_some C.hd
  refine ⟨od, PySem.W.kitx_exc (by rw [hc]; rfl) C.hg C.hk C.hs C.ha C.hn C.ht C.hm, hget, hz.1, ?_, ?_⟩
  · unfold PySem.W.notCls
    rw [hv] <;> rfl
  · rw [hz.2]
    exact ho
def rIsH (K : PySem.W.Frag) (a : Addr) (cls : Value) (d : Option Addr) : List V → Hp → VK → Prop := fun xs H Q => ∃ (D : Addr) (c : V) (cv : Value) (b : Bool), HeldE K cls d H D ∧ xs = [.ref a, c] ∧ ClsV c cv ∧ PySem.W.kitOne K (.ref D) cv = some b ∧ Q (.bl b) H
theorem call_isH (hz : Zc cls d oe) (hf : ∃ vs, oe.data = .fields vs) : CallR (X.suite a ((a, oe) :: pn)) (.builtin "isinstance") (rIsH X.K a cls d) := by
  intro pins s σ H xs us Q I r h
  obtain ⟨D, c, cv, b, hh, rfl, hc, e, q⟩ := h
  cases r with
  | cons rx rr =>
    cases rr with
    | cons rt rr =>
      cases rr
      cases (show _ = Value.ref a from rx)
      cases hc.eq rt
      obtain ⟨od, Z, J⟩ := kit_held hz hf I hh
      exact PySem.W.kia_one Z I.kIn J e (fun z => nomatch z) fun tk => ⟨.bl b, H, I.tok tk, rfl, q⟩
def rIsHT (K : PySem.W.Frag) (a : Addr) (cls : Value) (d : Option Addr) : List V → Hp → VK → Prop := fun xs H Q => ∃ (D tp : Addr) (cs : List V) (cvs : List Value) (b : Bool), HeldE K cls d H D ∧ xs = [.ref a, .ref tp] ∧ H tp = some (.tup cs) ∧ Paired ClsV cs cvs ∧ PySem.W.kitAny K (.ref D) cvs = some b ∧ Q (.bl b) H
theorem call_isHT (hz : Zc cls d oe) (hf : ∃ vs, oe.data = .fields vs) : CallR (X.suite a ((a, oe) :: pn)) (.builtin "isinstance") (rIsHT X.K a cls d) := by
  intro pins s σ H xs us Q I r h
  obtain ⟨D, tp, cs, cvs, b, hh, rfl, ht, hc, e, q⟩ := h
  cases r with
  | cons rx rr =>
    cases rr with
    | cons rt rr =>
      cases rr
      cases (show _ = Value.ref a from rx)
      cases (show _ = Value.ref tp from rt)
      obtain ⟨od, Z, J⟩ := kit_held hz hf I hh
      obtain ⟨_, its, rv, ⟨oc, od2, dt, sl⟩, h1, h2, n, h3⟩ := (show ObjOk X.prog X.w H s.heap tp (.tup cs) from I.hok tp _ ht)
      have e3 := ClsV.all hc rv
      subst e3
      simp only at h2 h3
      subst h2 h3
      exact PySem.W.kia_tup Z I.kIn J h1 e (fun z => nomatch z) fun tk => ⟨.bl b, H, I.tok tk, rfl, q⟩
end
end FR
set_option Elab.async false
set_option linter.all false
set_option maxRecDepth 100000
/-! a text beside a dict; «x not in texts» for anything -/
namespace FR
open PySem PySem.Spec PyProof.Rows L2 TL PySem.SeqAt
theorem str_eq_dict (b : Str) (u : Tok) (l : Addr) (c : Value) (es : Array DictEntry) (n : Nat) (dd : Option Addr) (sl : Array (Option Value)) :
    Meets (Builtin.«str.__eq__» ⟨[.str b u, .ref l], []⟩) (fun _ R s => s.heap.get? l = some { cls := c, dict := dd, data := .dict es n, slots := sl } ∧ R (.ok (.ret .notImplemented)) s) :=
  .of_wp fun prog w A R s h => by
    obtain ⟨hp, g, d, tk, os⟩ := s
    obtain ⟨hl, h⟩ := h
    wp_walk using wpAny_loadPart' hl, wpAny_load hl
    exact ⟨_, rfl, h⟩
theorem dict_eq_str (b : Str) (u : Tok) (l : Addr) (c : Value) (es : Array DictEntry) (n : Nat) (dd : Option Addr) (sl : Array (Option Value)) :
    Meets (Builtin.«dict.__eq__» ⟨[.ref l, .str b u], []⟩) (fun _ R s => s.heap.get? l = some { cls := c, dict := dd, data := .dict es n, slots := sl } ∧ R (.ok (.ret .notImplemented)) s) :=
  .of_wp fun prog w A R s h => by
    obtain ⟨hp, g, d, tk, os⟩ := s
    obtain ⟨hl, h⟩ := h
    have f1 := F.sub_str_dict
    wp_walk using wpAny_loadPart' hl, wpAny_load hl
    exact ⟨_, rfl, h⟩
theorem eqAt_str_dict {A : Around} {s : Shared} {l : Addr} {o : Obj} {es : Array DictEntry} {n : Nat} (b : Str) (u : Tok) (ho : s.heap.get? l = some o) (hx : o.cls = .type "dict") (hd : o.data = .dict es n) (hu : A.units < cLine) : EqAt A s (.str b u) (.ref l) false := fun prog w E Q h => by
  unfold eqBool
  refine wpAny_holding (wpAny_ite_split (fun hab => absurd (eq_of_beq hab) nofun) (fun _ => wpAny_bind ?_))
  obtain ⟨cls, dd, data, sl⟩ := o
  simp only at hx hd
  subst hx hd
  exact rc_eq_decline_or (k := false) (typeIs_str s b u) ⟨_, ho, rfl⟩ (by decide) F.sub_dict_str F.slot_str_eq F.slot_dict_eq_refl
    (fun _ hq => call_meets F.slot_str_eq (typeIs_str s b u) F.entry_str_eq (F.args_str_eq_2 _ _) (str_eq_dict b u l (.type "dict") es n dd sl) ⟨ho, hq⟩)
    (fun _ hq => call_meets F.slot_dict_eq_refl ⟨_, ho, rfl⟩ F.entry_dict_eq (F.args_dict_eq_2 _ _) (dict_eq_str b u l _ es n dd sl) ⟨ho, hq⟩)
    (fun _ hq => wpAny_of_eq (rfl : isSame (.str b u) (.ref l) = pure false) hq) (.inr hu) (wpAny_truthy_bool h)
section
variable {X : Cx}
theorem vals_strs : ∀ {ws : List Str} {us : List Value}, Vals (ws.map V.str) us → ∀ u ∈ us, ∃ x t, u = Value.str x t
  | [], _, h, u, hu => by
    cases h
    simp at hu
  | w :: r, _, .cons a b, u, hu => by
    rcases List.mem_cons.mp hu with rfl | hu
    · obtain ⟨t, rfl⟩ := a
      exact ⟨_, t, rfl⟩
    · exact vals_strs b u hu
/-- what «v not in the texts ws» gives -/
def NInW (K : PySem.W.Frag) (H : Hp) (v : V) (ws : List Str) (r : Bool) : Prop := (flatV v = true ∧ (!inV v (ws.map V.str)) = r) ∨ (∃ d, Dp K H v d ∧ SeqAt.shaped d = true ∧ SeqAt.shaped (.list (ws.map .str)) = true ∧ (!(ws.map PyData.str).any fun z => PyData.eqv z d) = r) ∨
  ∃ (a : Addr) (kvs : List (Key × V)), v = .ref a ∧ H a = some (.dK kvs) ∧ true = r
def rNotInW (K : PySem.W.Frag) : R2 := fun x y H Q => ∃ (p : Addr) (ws : List Str) (r : Bool), y = .ref p ∧ SqL K H p (ws.map V.str) ∧ NInW K H x ws r ∧ Q (.bl r) H
theorem op_notInW (hu : X.A.units + 65 < cLine) : OpR X (compareOp .NotIn) (rNotInW X.K) := by
  intro pins s σ H x y v u Q I rx ry h
  obtain ⟨p, ws, r, rfl, hp, ⟨hf, rfl⟩ | ⟨d, hd, s1, s2, rfl⟩ | ⟨a, kvs, rfl, ha, rfl⟩, q⟩ := h
  · exact op_notIn_seq pins s σ H x _ v u Q I rx ry ⟨p, _, rfl, .inl hp, hf, flat_strs ws, q⟩
  · exact op_notInD hu pins s σ H x _ v u Q I rx ry ⟨d, _, hd, .lst hp (dpAll_strs ws), s1, s2, q⟩
  · cases (show v = Value.ref a from rx)
    cases (show u = Value.ref p from ry)
    obtain ⟨_, _, vs, kv, o, es, ep, e, hx, hd, _, _, _⟩ := (show ObjOk X.prog X.w H s.heap a (.dK _) from I.hok _ _ ha)
    obtain ⟨its, rv, hl, _⟩ := I.list hp
    refine notIn_listAt (fun _ => false) hl.isList (fun z hz => ?_) ⟨.bl true, H, I, ?_, q⟩
    · obtain ⟨x, t, rfl⟩ := vals_strs rv z (by simpa using hz)
      exact eqAt_str_dict x t e hx.1 hd (by show X.A.units + 1 < cLine; omega)
    · show Value.bool _ = Value.bool true
      simp
theorem op_notInWK {X : Cx} {K : PySem.W.Frag} (h : X.K = K) (hu : X.A.units + 65 < cLine) : OpR X (compareOp .NotIn) (rNotInW K) := h ▸ op_notInW hu
end
end FR
set_option Elab.async false
set_option linter.all false
set_option maxRecDepth 100000
/-! raising defs with a star parameter, called -/
namespace FR
open PySem PySem.Spec PyProof.Rows L2 TL
theorem okStarX {P : Program} {w : World} {K : PySem.W.Frag} {mg : Str → Option Value} {base : Heap} {x qual pv : Str} {st : Stmt} {f : Addr} {fd : FuncData} {N ps : List Str} {k : Nat} {sp : Sp} (F : L2.Fun K x qual st f fd) (S : FnScope N (ps ++ [pv]) (defScope st))
    (hb : ∀ (kV doc pm : Value) (an : Option Addr) (cdv ct : Value) (us rest : List Value), us.length = ps.length → bindArgs (PySem.W.fnOf x qual (defArgs st) (defBody st) (defScope st) .none kV doc pm an cdv ct) ⟨us ++ rest, []⟩ = (newTuple rest >>= fun t => pure (ps.zip us ++ [(pv, t)])))
    (hbody : ∀ (cdv : Value) (A : Around) (outer : List Env) (s : Shared) (H : Hp) (vs : List V) (Q : VK) (E : XK), Room k (A.deeper (envOfC qual (defScope st) s.heap.objs.size f cdv)) → sp vs H Q E →
      ∃ t, PSs (cxOf (L2.CX P w) P w K mg base N qual (defScope st) f cdv A outer s H E) (defBody st) t ∧ t { nx := fun _ H' => Q .non H', rt := Q } (start N vs) H) :
    FnR P w K mg base (L2.CX P w) (k + 1) f (fun vs H Q E => ∃ ws rest, vs = ws ++ rest ∧ ws.length = ps.length ∧ rest.length ≤ sizeLine ∧ ∀ p, H p = Option.none → sp (ws ++ [V.ref p]) (upd H p (.tup rest)) Q E) := by
  obtain ⟨oc, od, kV, doc, pm, an, cdv, ct, osl, rfl, lk, hcd⟩ := F.ex
  exact StX.fn_star lk hcd S StX.cxUp (hb kV doc pm an cdv ct) fun A outer s H vs Q E hr hsp => hbody cdv A outer s H vs Q E hr hsp
section
variable {X : Cx} {CX : CXT} {k : Nat} {f : Addr} {sp : Sp} {E : L2.St → XK} {x : Str} {e : Expr} {es : List Expr} {t : TA} {p pos : Pos}
theorem pe_callRX (F : FnR X.prog X.w X.K X.mg X.base CX k f sp) (hr : Room k X.A) (hk : PySem.W.keepIn X.K (.ref f) = true) (hg : Gl X x) (hm : X.mg x = some (.ref f)) (hx : ∀ σ, PassesAt CX X σ (E σ)) (ha : PA X (e :: es) t) (hd : (x == ("__debug__" : Str)) = false := by decide)
    (he : starEach (e :: es) X.env = (false, eval e X.env) :: starEach es X.env := by rfl) (hpl : (backTo pos (starEach es X.env)).any (·.1) = false := by rfl) :
    PE X (.Call (.Name x p) (e :: es) [] pos) (fun σ H Q => t σ H fun vs H1 => sp vs H1 Q (E σ)) := ⟨fun pins s σ H Q I h => by
  refine wpAny_Call_Name_kw (ld_glob I hg hm (PySem.W.callWith_K (h₀ := X.base) I.ok.mod.kin hk (thn (ha.run pos pins s σ H _ I h) fun us s1 hz => ?_) he hpl) hd)
  obtain ⟨vs, H1, I1, r, q⟩ := hz
  refine ⟨I1.kIn, wpAny_call (codeAny_mono (F X.A X.stack s1 H1 us vs Q (E σ) hr I1.env0 r q) fun rr s' hq => ?_)⟩
  match rr, hq with
  | .error ee, hq => exact hx σ pins H1 s1 ee s' I1 hq
  | .ok (.ret u), hq => exact I1.after hq
  | .ok .next, hq => exact hq.elim
  | .ok .brk, hq => exact hq.elim
  | .ok .cont, hq => exact hq.elim⟩
end
end FR
set_option Elab.async false
set_option linter.all false
set_option maxRecDepth 100000
/-! how long a shown list is; facts that hang on some addresses alone -/
namespace FR
open PySem PySem.Spec PyProof.Rows L2 TL
theorem len_sep : (Str.ofString ", ").length = 2 := by decide +kernel
theorem len_open : (Str.ofString "[").length = 1 := by decide +kernel
theorem len_close : (Str.ofString "]").length = 1 := by decide +kernel
theorem len_none : (Str.ofString "").length = 0 := by decide +kernel
theorem shown3 (a b c : PyData) : (PyData.list [a, b, c]).shown.length = a.shown.length + b.shown.length + c.shown.length + 6 := by
  show (listText [a.shown, b.shown, c.shown]).length = _
  unfold listText
  rw [len_app, len_close]
  show ((((((Str.ofString "[" ++ Str.ofString "") ++ a.shown) ++ Str.ofString ", ") ++ b.shown) ++ Str.ofString ", ") ++ c.shown).length + 1 = _
  rw [len_app, len_app, len_app, len_app, len_app, len_app, len_open, len_none, len_sep]
  omega
theorem shown2 (a b : PyData) : (PyData.list [a, b]).shown.length = a.shown.length + b.shown.length + 4 := by
  show (listText [a.shown, b.shown]).length = _
  unfold listText
  rw [len_app, len_close]
  show ((((Str.ofString "[" ++ Str.ofString "") ++ a.shown) ++ Str.ofString ", ") ++ b.shown).length + 1 = _
  rw [len_app, len_app, len_app, len_app, len_open, len_none, len_sep]
  omega
theorem Keep.trans0 {H H1 : Hp} {D : Addr} {o : HO} (k : Keep [] H H1) (hD : H D = none) : Keep [] H (upd H1 D o) := fun b u e hb => by
  rw [upd_ne (ne_of_none e hD)]
  exact k b u e hb
def Held (S : List Addr) (H : Hp) (F : Hp → Prop) : Prop := (∀ a ∈ S, H a ≠ none) ∧ ∀ H', (∀ a ∈ S, H' a = H a) → F H'
section
variable {S T M : List Addr} {H H' : Hp} {F G : Hp → Prop}
theorem Held.at (h : Held S H F) : F H := h.2 H fun _ _ => rfl
theorem Held.mono (h : Held S H F) (k : Keep M H H') (d : ∀ a ∈ S, a ∉ M) : Held S H' F := by
  have e : ∀ a ∈ S, H' a = H a := fun a ha => by
    cases e : H a with
    | none => exact absurd e (h.1 a ha)
    | some o => exact k a o e (d a ha)
  exact ⟨fun a ha => by rw [e a ha]; exact h.1 a ha, fun H2 e2 => h.2 H2 fun a ha => (e2 a ha).trans (e a ha)⟩
theorem Held.mono0 (h : Held S H F) (k : Keep [] H H') : Held S H' F := h.mono k (by simp)
theorem Held.and (h : Held S H F) (g : Held T H G) : Held (S ++ T) H (fun H => F H ∧ G H) :=
  ⟨fun a ha => (List.mem_append.mp ha).elim (h.1 a) (g.1 a), fun H2 e => ⟨h.2 H2 fun a ha => e a (List.mem_append_left _ ha), g.2 H2 fun a ha => e a (List.mem_append_right _ ha)⟩⟩
theorem Held.imp (h : Held S H F) (i : ∀ H, F H → G H) : Held S H G := ⟨h.1, fun H2 e => i _ (h.2 H2 e)⟩
theorem Held.none (h : ∀ H, F H) : Held [] H F := ⟨by simp, fun H2 _ => h H2⟩
theorem Held.one {a : Addr} {o : HO} (h : H a = some o) (i : ∀ H2 : Hp, H2 a = some o → F H2) : Held [a] H F := ⟨fun x hx => by rw [List.mem_singleton.mp hx, h]; simp, fun H2 e => i H2 ((e a (by simp)).trans h)⟩
theorem Held.fresh (h : Held S H F) {p : Addr} (np : H p = Option.none) : p ∉ S := fun hp => h.1 p hp np
end
theorem Dq.mono {H H' : Hp} (k : Keep [] H H') {v : V} {d : PyData} (h : Dq H v d) : Dq H' v d := by
  refine Dq.rec (motive_1 := fun v d _ => Dq H' v d) (motive_2 := fun vs ds _ => DqAll H' vs ds) (motive_3 := fun vs ds _ => DqKv H' vs ds) .non .bl .int .str ?_ ?_ ?_ .nil (fun _ _ a b => .cons a b) .nil (fun _ _ a b => .cons a b) h
  · intro a xs ds hx hb _ ih
    exact .lst (k _ _ hx (by simp)) hb ih
  · intro a xs ds hx _ ih
    exact .tup (k _ _ hx (by simp)) ih
  · intro a kvs ds hx _ ih
    exact .dct (k _ _ hx (by simp)) ih
theorem u65 {k : Nat} {A : Around} (r : Room k A) : A.units + 65 < cLine := by have := r.un; omega
theorem okG0 {P : Program} {w : World} {K : PySem.W.Frag} {mg : Str → Option Value} {base : Heap} {k : Nat} {f : Addr} {sp : Sp} {x qual : Str} {st : Stmt} {fd : FuncData} {N ps : List Str} (F : L2.Fun K x qual st f fd) (S : FnScope N ps (defScope st)) (B : Binds K fd ps []) (hlen : ∀ vs H Q E, sp vs H Q E → vs.length = ps.length)
    (hbody : ∀ (cdv : Value) (A : Around) (outer : List Env) (s : Shared) (H : Hp) (vs : List V) (Q : VK) (E : XK), A.guards = some [] → Room k (A.deeper (envOfC qual (defScope st) s.heap.objs.size f cdv)) → sp vs H Q E →
      ∃ t, PSs (cxOf CX0 P w K mg base N qual (defScope st) f cdv A outer s H E).nox (defBody st) t ∧ t { nx := fun _ H' => Q .non H', rt := Q } (start N vs) H) : FnG P w K mg base CX0 (k + 1) f sp :=
  okG F S B hlen fun cdv A outer s H vs Q E hg hr hs => (hbody cdv A outer s H vs Q E hg hr hs).elim fun t h => ⟨t, h.1.nox, h.2⟩
end FR
set_option Elab.async false
set_option linter.all false
set_option maxRecDepth 100000
/-! what `except` and isinstance say of two classes of the text -/
namespace FR
open PySem PySem.Spec PyProof.Rows L2
/-- an error of the class at S is what «except T» names, or not -/
theorem exm_of {K : PySem.W.Frag} {t S : Addr} {b : Bool} (h1 : PySem.W.subIn K (.ref S) (.type "BaseException") = some true) (h2 : PySem.W.isClsIn K S = true) (h3 : PySem.W.typeIn K (.ref S) = some (.type "type")) (h4 : PySem.W.subIn K (.ref t) (.ref S) = some b) :
    PySem.W.exmOne K (.ref t) (.ref S) = some b := by
  have e1 : (PySem.W.subIn K (.ref S) (.type "BaseException") == some true) = true := by rw [h1] <;> rfl
  have e2 : ((PySem.W.clsIn K S).isSome && PySem.W.typeIn K (.ref S) == some (.type "type")) = true := by
    rw [show (PySem.W.clsIn K S).isSome = true from h2, h3] <;> rfl
  unfold PySem.W.exmOne
  rw [if_pos e1]
  show (if ((PySem.W.clsIn K S).isSome && PySem.W.typeIn K (.ref S) == some (.type "type")) = true then PySem.W.subIn K (.ref t) (.ref S) else none) = some b
  rw [if_pos e2]
  exact h4
theorem kit_of {K : PySem.W.Frag} {t S : Addr} {b : Bool} (hs : PySem.W.subIn K (.ref t) (.ref t) = some true) (h2 : PySem.W.isClsIn K S = true) (h3 : PySem.W.typeIn K (.ref S) = some (.type "type")) (h4 : PySem.W.subIn K (.ref t) (.ref S) = some b) :
    PySem.W.kitOne K (.ref t) (.ref S) = some b := by
  have e2 : ((PySem.W.clsIn K S).isSome && PySem.W.typeIn K (.ref S) == some (.type "type")) = true := by
    rw [show (PySem.W.clsIn K S).isSome = true from h2, h3] <;> rfl
  unfold PySem.W.kitOne
  by_cases e : ((Value.ref t : Value) == .ref S) = true
  · rw [if_pos e]
    have e' : t = S := by simpa using e
    subst e'
    exact hs.symm.trans h4
  · rw [if_neg e]
    show (if ((PySem.W.clsIn K S).isSome && PySem.W.typeIn K (.ref S) == some (.type "type")) = true then PySem.W.subIn K (.ref t) (.ref S) else none) = some b
    rw [if_pos e2]
    exact h4

end FR
set_option Elab.async false
set_option linter.all false
set_option maxRecDepth 100000
/-! x = e.replace(old, new) in a def: it wants that something has been made before, as it has where a def runs -/
namespace FR
open PySem PySem.Spec PyProof.Rows L2 TL
theorem okT {P : Program} {w : World} {K : PySem.W.Frag} {mg : Str → Option Value} {base : Heap} {x qual : Str} {st : Stmt} {f : Addr} {fd : FuncData} {N ps : List Str} {k : Nat} {sp : Sp}
    (F : Fun K x qual st f fd) (S : FnScope N ps (defScope st)) (nc : ∀ y ∈ (defScope st).names, y.2 ≠ NameKind.cell) (hp : 1 ≤ ps.length) (len : ∀ vs H Q E, sp vs H Q E → vs.length = ps.length)
    (body : ∀ (cdv : Value) (A : Around) (outer : List Env) (s : Shared) (H : Hp) (vs : List V) (Q : VK) (E : XK), Room k (A.deeper (envOfC qual (defScope st) s.heap.objs.size f cdv)) → sp vs H Q E →
      ∃ t, PSsT (cxOf CX0 P w K mg base N qual (defScope st) f cdv A outer s H E) (defBody st) t ∧ t { nx := fun _ H' => Q .non H', rt := Q } (start N vs) H) :
    FnOk P w K mg base CX0 (k + 1) f fd ps sp := by
  obtain ⟨oc, od, kV, doc, pm, an, cdv, ct, osl, rfl, hl, hc⟩ := F.ex
  exact fn_ofT hl hc S nc hp len fun A outer s H vs Q E hr h => body cdv A outer s H vs Q E hr h
theorem pst_asg {X : Cx} {pos : Pos} {tg e : Expr} {te : TE} {g : TG} (he : PET X e te) (hg : PG X tg g) (h1 : swapsWithSole [tg] e pos.line X.env = pure false := by rfl)
    (h2 : swappedStores [tg] e X.env = pure none := by rfl) (h3 : (assignEach [tg] X.env).map (fun x => x.2) = [assign tg X.env] := by rfl) : PST X (.Assign [tg] e pos) (tAsg te g) := by
  intro pins s σ H D ht I h
  refine wpAny_Assign_stores (wpAny_mono (he pins s σ H _ ht I h) (fun v s1 z => ?_) fun _ _ z => z) h1 h2
  obtain ⟨x, H1, I1, r1, q⟩ := z
  rw [h3]
  unfold assignAll
  exact wpAny_mono (hg.run pins s1 σ H1 x v _ I1 r1 q) (fun u s2 z => z) fun _ _ z => z
/-- without its slashes -/
def noSl (s : Str) : Str := Txt.replace s "/" ""
theorem repl_filter (c : Nat) : ∀ l : List Nat, PySem.StrLaws.replL [c] [] l = l.filter (fun d => d != c)
  | [] => PySem.StrLaws.replL_nil
  | d :: r => by
    by_cases e : d = c
    · subst e
      rw [PySem.StrLaws.replL_hit (by simp) (by simp)]
      simpa using repl_filter d r
    · rw [PySem.StrLaws.replL_miss (by simp [e]), repl_filter c r]
      simp [e]
theorem tl_noSl (s : Str) : tl (noSl s) = (tl s).filter (fun d => d != 47) := by
  refine (PySem.StrLaws.replace_list (x := s) (y := "/") (z := "") (by decide +kernel)).trans ?_
  exact repl_filter 47 _
theorem noSl_asc {s : Str} (a : Asc s) : Asc (noSl s) := fun c hc => a c (by rw [tl_noSl] at hc; exact (List.mem_filter.mp hc).1)
end FR
set_option Elab.async false
set_option linter.all false
set_option maxRecDepth 100000
/-! the parts of a path, and what is left of it without its slashes -/
namespace FR
open PySem PySem.Spec PyProof.Rows L2 TL
theorem spl_all (c : Nat) : ∀ (l acc : List Nat), (spl [c] 0 acc l).flatten = acc ++ l.filter (fun d => d != c)
  | [], acc => by rw [spl_nil]; simp
  | x :: r, acc => by
    by_cases e : pre [c] (x :: r) = true
    · rw [spl_hit e]
      have : x = c := by rw [pre_one] at e; simpa using e
      subst this
      have := spl_all x r []
      simp only [List.flatten_cons]
      show acc ++ (spl [x] 0 [] r).flatten = _
      rw [this]
      simp
    · rw [spl_miss (by simpa using e), spl_all c r (acc ++ [x])]
      have : x ≠ c := by rw [pre_one] at e; simpa using e
      simp [this]
theorem path_parts {s : Str} (h : Txt.startswith s ⟨#[47]⟩ = true) : (((Txt.split s ⟨#[47]⟩).drop 1).map tl).flatten = tl (noSl s) ∧ (Txt.split s ⟨#[47]⟩).drop 1 ≠ [] := by
  rw [starts_one] at h
  have e1 : ((Txt.split s ⟨#[47]⟩).drop 1).map tl = (spl [47] 0 [] (tl s)).drop 1 := by rw [List.map_drop, split_tl _ (by decide)]
  cases e : tl s with
  | nil => rw [e] at h; cases h
  | cons c r =>
    rw [e] at h
    have : c = 47 := by simpa using h
    subst this
    have e2 : (spl [47] 0 [] (47 :: r)).drop 1 = spl [47] 0 [] r := by
      rw [spl_hit (by rw [pre_one]; rfl)]
      rfl
    rw [e, e2] at e1
    constructor
    · rw [e1, spl_all, tl_noSl, e]
      simp
    · intro h0
      rw [h0] at e1
      have : ∀ (l acc : List Nat), spl [47] 0 acc l ≠ [] := by
        intro l
        induction l with
        | nil => intro acc; rw [spl_nil]; simp
        | cons x r ih =>
          intro acc
          by_cases e : pre [47] (x :: r) = true
          · rw [spl_hit e]; simp
          · rw [spl_miss (by simpa using e)]; exact ih _
      exact this r [] e1.symm
theorem path_split {s : Str} (h : Txt.startswith s ⟨#[47]⟩ = true) (p : Nat → Bool) :
    ((Txt.split s ⟨#[47]⟩).drop 1).all (fun u => decide (u ≠ Str.ofString "" ∧ u.length ≤ 8) && (tl u).all p) =
      ((decide (noSl s ≠ Str.ofString "") && (tl (noSl s)).all p) && ((Txt.split s ⟨#[47]⟩).drop 1).all (fun u => decide (1 ≤ u.length ∧ u.length ≤ 8))) := by
  obtain ⟨hf, hn⟩ := path_parts h
  have ne : ∀ u : Str, u ≠ Str.ofString "" ↔ 1 ≤ u.length := fun u => by
    constructor
    · intro e
      rcases Nat.eq_zero_or_pos u.length with z | z
      · refine absurd (ext_tl ?_) e
        rw [len_tl] at z
        rw [List.length_eq_zero_iff.mp z]
        decide +kernel
      · exact z
    · intro e h
      rw [h] at e
      exact absurd e (by decide +kernel)
  rw [Bool.eq_iff_iff, ← hf, List.all_flatten, List.all_map]
  simp only [Bool.and_eq_true, List.all_eq_true, decide_eq_true_eq, Function.comp]
  generalize (Txt.split s ⟨#[47]⟩).drop 1 = ps at hf hn
  constructor
  · intro a
    refine ⟨⟨?_, fun u hu => (a u hu).2⟩, fun u hu => ⟨(ne u).mp (a u hu).1.1, (a u hu).1.2⟩⟩
    intro e
    cases ps with
    | nil => exact hn rfl
    | cons u r =>
      have hu := (ne u).mp (a u (by simp)).1.1
      rw [e] at hf
      have := congrArg List.length hf
      rw [List.map_cons, List.flatten_cons, List.length_append, ← len_tl] at this
      have z : (tl (Str.ofString "")).length = 0 := by decide +kernel
      omega
  · rintro ⟨⟨_, a⟩, b⟩ u hu
    exact ⟨⟨(ne u).mpr (b u hu).1, (b u hu).2⟩, a u hu⟩
end FR
set_option Elab.async false
set_option linter.all false
set_option maxRecDepth 100000
/-! the last slash of a path; a path without its slashes -/
namespace FR
open PySem PySem.Spec PyProof.Rows L2 TL
theorem rfind_one {x : Str} {c i : Nat} (h : (tl x)[i]? = some c) (h2 : ∀ k, i < k → (tl x)[k]? ≠ some c) : Txt.rfind x ⟨#[c]⟩ = (i : Int) := by
  unfold Txt.rfind
  rcases PySem.StrLaws.last_spec x ⟨#[c]⟩ with ⟨_, hn⟩ | ⟨j, e, hj, hm⟩
  · exact absurd ((PySem.StrLaws.subAt_one x c i).mpr h) (hn i)
  · rw [e]
    have hj' := (PySem.StrLaws.subAt_one x c j).mp hj
    rcases Nat.lt_trichotomy i j with l | l | l
    · exact absurd hj' (h2 j l)
    · rw [l]
    · exact absurd ((PySem.StrLaws.subAt_one x c i).mpr h) (hm i l)
theorem flat_app (ms : List Str) (n : Str) : flat (ms ++ [n]) = flat ms ++ 47 :: tl n := by simp [flat]
theorem rfind_path {ms : List Str} {n : Str} (hn : Nm n) : Txt.rfind (pathOf (ms ++ [n])) (Str.ofString "/") = ((flat ms).length : Int) ∧ cutS (pathOf (ms ++ [n])) none (some ((flat ms).length : Int)) = cat ms := by
  have e : tl (pathOf (ms ++ [n])) = flat ms ++ 47 :: tl n := by rw [pathOf_ne (by simp), tl_cat, flat_app]
  constructor
  · rw [slash]
    refine rfind_one (by rw [e, List.getElem?_append_right (Nat.le_refl _), Nat.sub_self]; rfl) fun k hk h => ?_
    rw [e, List.getElem?_append_right (by omega)] at h
    obtain ⟨j, hj⟩ : ∃ j, k - (flat ms).length = j + 1 := ⟨k - (flat ms).length - 1, by omega⟩
    rw [hj, List.getElem?_cons_succ] at h
    have := hn.lt (List.mem_of_getElem? h)
    omega
  · refine ext_tl ?_
    rw [tl_cutTo, e, tl_cat, List.take_left]
theorem low_of {s : Str} (h0 : tl s ≠ []) (h : ∀ c ∈ tl s, lc c = true) : Txt.isascii s = true ∧ Txt.isalpha s = true ∧ Txt.islower s = true := by
  have ha : Asc s := fun c hc => by have := of_decide_eq_true (h c hc); omega
  refine ⟨isascii_asc ha, ?_, ?_⟩
  · show (decide (s.length > 0) && s.cps.all Unicode.isAlpha) = true
    rw [all_tl, Bool.and_eq_true, decide_eq_true_eq, List.all_eq_true, len_tl]
    exact ⟨List.length_pos_iff.mpr h0, fun c hc => (lc_alpha ⟨c, ha c hc⟩ (h c hc)).1⟩
  · show (s.cps.any Unicode.isLower && !s.cps.any fun c => Unicode.isUpper c || Unicode.isTitle c) = true
    rw [any_tl, any_tl, Bool.and_eq_true, List.any_eq_true, Bool.not_eq_true', List.any_eq_false]
    refine ⟨?_, fun c hc => by have := (lc_alpha ⟨c, ha c hc⟩ (h c hc)).2.2; simpa using this⟩
    obtain ⟨c, hc⟩ := List.exists_mem_of_ne_nil _ h0
    exact ⟨c, hc, (lc_alpha ⟨c, ha c hc⟩ (h c hc)).2.1⟩
theorem path_noSl {ns : List Str} (h : Nms ns) (e : ns ≠ []) : Txt.isascii (noSl (pathOf ns)) = true ∧ Txt.isalpha (noSl (pathOf ns)) = true ∧ Txt.islower (noSl (pathOf ns)) = true := by
  have hm : ∀ c, c ∈ tl (noSl (pathOf ns)) ↔ ∃ s ∈ ns, c ∈ tl s := fun c => by
    rw [tl_noSl, pathOf_ne e, tl_cat, List.mem_filter]
    unfold flat
    rw [List.mem_flatten]
    constructor
    · rintro ⟨⟨l, hl, hc⟩, hne⟩
      obtain ⟨s, hs, rfl⟩ := List.mem_map.mp hl
      rcases List.mem_cons.mp hc with rfl | hc
      · simp at hne
      · exact ⟨s, hs, hc⟩
    · rintro ⟨s, hs, hc⟩
      refine ⟨⟨_, List.mem_map.mpr ⟨s, hs, rfl⟩, List.mem_cons_of_mem _ hc⟩, ?_⟩
      have := (h s hs).lt hc
      simp
      omega
  refine low_of (fun z => ?_) fun c hc => ?_
  · cases ns with
    | nil => exact e rfl
    | cons n r =>
      have h0 := (h n List.mem_cons_self).l0
      rw [len_tl] at h0
      obtain ⟨c, hc⟩ := List.exists_mem_of_length_pos h0
      have := (hm c).mpr ⟨n, List.mem_cons_self, hc⟩
      rw [z] at this
      cases this
  · obtain ⟨s, hs, hc⟩ := (hm c).mp hc
    exact (h s hs).lo c hc
end FR
set_option Elab.async false
set_option linter.all false
set_option maxRecDepth 100000
/-! x in t, t a tuple of data, x any datum -/
namespace FR
open PySem PySem.Spec PyProof.Rows L2 TL PySem.SeqAt
def rInTD (K : PySem.W.Frag) : R2 := fun x y H Q => ∃ (p : Addr) (d : PyData) (ds : List PyData), y = .ref p ∧ Dp K H x d ∧ Dp K H y (.tuple ds) ∧ SeqAt.shaped d = true ∧ PyData.canLayAll0 ds = true ∧ Q (.bl (ds.any fun z => z.eqv d)) H
theorem op_inTD {X : Cx} (hu : X.A.units + 65 < cLine) : OpR X (compareOp .In) (rInTD X.K) := by
  intro pins s σ H x y v u Q I rx ry h
  obtain ⟨p, d, ds, rfl, hd, hy, s1, c2, q⟩ := h
  cases (show u = Value.ref p from ry)
  obtain ⟨as, r1⟩ := Dp.reads I _ _ _ hd rx
  obtain ⟨bs, r2⟩ := Dp.reads I _ _ _ hy ry
  unfold SeqAt.shaped at s1
  rw [Bool.and_eq_true, decide_eq_true_eq] at s1
  cases r2 with
  | tuple e hc hdt hr =>
    refine in_tupleAt (fun z => (readOf s.heap z).eqv d) ⟨_, e, hc, _, hdt⟩ (items_eqAt hr r1 c2 s1.1 (by have := Nat.min_le_right (PyData.depthAll ds) d.depth; omega)) ⟨.bl (ds.any fun z => z.eqv d), H, I, ?_, q⟩
    show Value.bool _ = Value.bool _
    rw [any_by_data hr c2]
end FR
set_option Elab.async false
set_option linter.all false
set_option maxRecDepth 100000
/-! keyword calls of raising defs -/
namespace FR
open PySem PySem.Spec PyProof.Rows L2 TL
section
variable {X : Cx} {CX : CXT} {k n : Nat} {f : Addr} {fd : FuncData} {ps ks : List Str} {sp : Sp} {E : L2.St → XK} {x : Str} {p pos : Pos} {e : Expr} {es : List Expr} {kws : List Keyword} {t tk : TA} {g : List Value → List Value → List Value} {gV : List V → List V → List V}
theorem run_fnNS {pins : List (Addr × Obj)} {σ : L2.St} {H : Hp} {s : Shared} {Q : VK} {us ws : List Value} {vs zs : List V} (F : FnOk X.prog X.w X.K X.mg X.base CX k f fd ps sp) (hr : Room k X.A) (hb : KBn X.K fd ps n ks g gV) (hx : PassesAt CX X σ (E σ))
    (I : Inv X pins σ H s) (r : Vals vs us) (rz : Vals zs ws) (l1 : vs.length = n) (l2 : zs.length = ks.length) (h : sp (gV vs zs) H Q (E σ)) : wpAny (model X.prog X.w) X.A (call (.ref f) us (ks.zip ws)) (EP X pins σ Q) X.xe s := by
  have r2 := hb.rel r rz
  refine wpAny_call (codeAny_mono (F.run X.A X.stack s H ⟨us, ks.zip ws⟩ (g us ws) (gV vs zs) Q (E σ) hr I.env0 (hb.to s us ws I.kIn (r.length.symm.trans l1) (rz.length.symm.trans l2)) r2 h) fun r s' hq => ?_)
  cases r with
  | error e => exact hx pins H s e s' I hq
  | ok fl =>
    cases fl with
    | ret u => exact I.after hq
    | next => exact False.elim hq
    | brk => exact False.elim hq
    | cont => exact False.elim hq
def tCallNS (n m : Nat) (sp : Sp) (gV : List V → List V → List V) (E : L2.St → XK) (t tk : TA) : TE := fun σ H Q => t σ H fun vs H1 => tk σ H1 fun zs H2 => vs.length = n ∧ zs.length = m ∧ sp (gV vs zs) H2 Q (E σ)
theorem pe_callN0S (F : FnOk X.prog X.w X.K X.mg X.base CX k f fd ps sp) (hr : Room k X.A) (hg : Gl X x) (hm : X.mg x = some (.ref f)) (hk : PySem.W.keepIn X.K (.ref f) = true) (hb : KBn X.K fd ps 0 ks g gV) (hx : ∀ σ, PassesAt CX X σ (E σ)) (hkw : PK X kws tk)
    (hall : (backToKw pos (keywordEach kws X.env)).all (·.1.isSome) = true := by rfl) (hks : (backToKw pos (keywordEach kws X.env)).filterMap (·.1) = ks := by rfl) (hdb : (x == ("__debug__" : Str)) = false := by decide)
    (hpl : ((backTo pos (starEach [] X.env)).any (·.1) || (backToKw pos (keywordEach kws X.env)).any (·.1.isNone)) = false := by rfl) : PE X (.Call (.Name x p) [] kws pos) (tCallNS 0 ks.length sp gV E tNil tk) := ⟨fun pins s σ H Q I h => by
  refine wpAny_Call_Name_kw (ld_glob I hg hm (PySem.W.callWith_KW0 (h₀ := X.base) I.ok.mod.kin hk hall ?_ hpl) hdb)
  refine thn (hkw.run pos pins s σ H _ I h) fun ws s2 hz => ?_
  obtain ⟨zs, H2, I2, rz, l1, l2, q2⟩ := hz
  refine ⟨I2.kIn, ?_⟩
  rw [hks]
  exact run_fnNS (us := []) (vs := []) F hr hb (hx σ) I2 .nil rz rfl l2 q2⟩
end
end FR
set_option Elab.async false
set_option linter.all false
set_option maxRecDepth 100000
/-! t + u and t[lo:hi] of tuples, whichever object stands for them -/
namespace FR
open PySem PySem.Spec PyProof.Rows L2 TL
section
variable {X : Cx}
def rCatK : R2 := fun x y H Q => ∃ a b xs ys, x = .ref a ∧ y = .ref b ∧ H a = some (.tup xs) ∧ H b = some (.tup ys) ∧ xs.length + ys.length ≤ sizeLine ∧ ∀ p H', Keep [] H H' → H' p = some (.tup (xs ++ ys)) → Q (.ref p) H'
theorem op_catK : OpR X (binaryOp .Add) rCatK := fun pins s σ H x y v u Q I rx ry h => by
  obtain ⟨a, b, xs, ys, rfl, rfl, ha, hb, hz, q⟩ := h
  refine op_catA pins s σ H _ _ v u Q I rx ry ⟨a, b, xs, ys, rfl, rfl, .inl (.inl ha), .inl (.inl hb), hz, fun e => q b H Keep.refl (by rw [e]; exact hb), fun _ e => q a H Keep.refl (by rw [e, List.append_nil]; exact ha), fun _ _ p np => q p _ (keep_new np) upd_same⟩
def rSlK : V → Option Int → Option Int → Hp → VK → Prop := fun x lo hi H Q => ∃ a xs, x = .ref a ∧ H a = some (.tup xs) ∧ ∀ p H', Keep [] H H' → H' p = some (.tup (cutV xs lo hi)) → Q (.ref p) H'
theorem sl_tupK : SlR X rSlK := fun pins s σ H x v vl vu lo hi sl Q I rx hs pl pu h => by
  obtain ⟨a, xs, rfl, ha, q⟩ := h
  refine sl_tupA pins s σ H _ v vl vu lo hi sl Q I rx hs pl pu ⟨a, xs, rfl, .inl (.inl ha), fun e => q a H Keep.refl ?_, fun _ p np => q p _ (keep_new np) upd_same⟩
  rw [ha]
  unfold cutV
  rw [e.1, e.2, List.drop_zero, Nat.sub_zero, List.take_length]
end
theorem cutV_mem {xs : List V} {lo hi : Option Int} {x : V} (h : x ∈ cutV xs lo hi) : x ∈ xs := List.mem_of_mem_drop (List.mem_of_mem_take h)
end FR
set_option Elab.async false
set_option linter.all false
set_option maxRecDepth 100000
/-! blocks of a def that are shown by themselves -/
namespace FR
open PySem PySem.Spec PyProof.Rows L2 TL
/-- a block, by what it asks -/
theorem pss_b {X : Cx} {b : List Stmt} {t R : TS} (h : PSs X b t) (k : ∀ D σ H, R D σ H → t D σ H) : PSs X b R := ⟨fun pins s σ H D I q => h.run pins s σ H D I (k D σ H q)⟩
def bdF : Stmt → List Stmt
  | .For _ _ b _ _ => b
  | .While _ b _ _ => b
  | .If _ b _ _ => b
  | .Try b _ _ _ _ => b
  | _ => []
def bdE : Stmt → List Stmt
  | .For _ _ _ b _ => b
  | .While _ _ b _ => b
  | .If _ _ b _ => b
  | .Try _ _ b _ _ => b
  | _ => []
def nth (l : List Stmt) (i : Nat) : Stmt := l.getD i (.Pass ⟨0, 0, 0, 0⟩)
/-- repr, its text kept closed -/
theorem rep_to {K : PySem.W.Frag} {xs : List V} {H : Hp} {Q : VK} {p : Addr} {d : PyData} {tx : Str} (e : d.shown = tx) (h : Dp K H (.ref p) d ∧ d.showable = true ∧ d.hasDict = false ∧ d.depth ≤ 50 ∧ d.shown.length ≤ sizeLine) (hx : xs = [.ref p]) (q : Q (.str tx) H) : rReprD K xs H Q :=
  ⟨p, d, hx, h.1, h.2.1, h.2.2.1, h.2.2.2.1, h.2.2.2.2, by rw [e]; exact q⟩
theorem rep_ex {K : PySem.W.Frag} {H : Hp} {p : Addr} {d : PyData} (_ : Dp K H (.ref p) d ∧ d.showable = true ∧ d.hasDict = false ∧ d.depth ≤ 50 ∧ d.shown.length ≤ sizeLine) : ∃ t, d.shown = t := ⟨_, rfl⟩
theorem same_txt {t : Str} {A B : Prop} (b : B) : if (!decide (V.str t = V.str t)) = true then A else B := by
  rw [decide_eq_true rfl]
  exact b
end FR
set_option Elab.async false
set_option linter.all false
set_option maxRecDepth 100000
set_option maxHeartbeats 8000000
local macro_rules | `(tactic| walk_at "sq") => `(tactic| first
  | (refine' FR.Ow.sq (i := 0) ?w ?e; (case w => assumption); (case e => rfl))
  | (refine' FR.Ow.sq (i := 1) ?w ?e; (case w => assumption); (case e => rfl))
  | (refine' FR.Ow.sq (i := 2) ?w ?e; (case w => assumption); (case e => rfl))
  | (refine' FR.Ow.sq (i := 3) ?w ?e; (case w => assumption); (case e => rfl))
  | (refine' FR.Ow.sq (i := 4) ?w ?e; (case w => assumption); (case e => rfl))
  | (refine' FR.Ow.sq (i := 5) ?w ?e; (case w => assumption); (case e => rfl))
  | (refine' FR.Ow.sq (i := 6) ?w ?e; (case w => assumption); (case e => rfl))
  | (refine' FR.Ow.sq (i := 7) ?w ?e; (case w => assumption); (case e => rfl))
  | (refine' FR.Ow.sq (i := 8) ?w ?e; (case w => assumption); (case e => rfl))
  | (refine' FR.Ow.sq (i := 9) ?w ?e; (case w => assumption); (case e => rfl))
  | (refine' FR.Ow.sq (i := 10) ?w ?e; (case w => assumption); (case e => rfl))
  | (refine' FR.Ow.sq (i := 11) ?w ?e; (case w => assumption); (case e => rfl))
  | (refine' FR.Ow.sq (i := 12) ?w ?e; (case w => assumption); (case e => rfl))
  | (refine' FR.Ow.sq (i := 13) ?w ?e; (case w => assumption); (case e => rfl))
  | assumption)
local macro_rules | `(tactic| walk_at "hp") => `(tactic| first
  | (refine' FR.Ow.get (i := 0) ?w ?e; (case w => assumption); (case e => rfl))
  | (refine' FR.Ow.get (i := 1) ?w ?e; (case w => assumption); (case e => rfl))
  | (refine' FR.Ow.get (i := 2) ?w ?e; (case w => assumption); (case e => rfl))
  | (refine' FR.Ow.get (i := 3) ?w ?e; (case w => assumption); (case e => rfl))
  | (refine' FR.Ow.get (i := 4) ?w ?e; (case w => assumption); (case e => rfl))
  | (refine' FR.Ow.get (i := 5) ?w ?e; (case w => assumption); (case e => rfl))
  | (refine' FR.Ow.get (i := 6) ?w ?e; (case w => assumption); (case e => rfl))
  | (refine' FR.Ow.get (i := 7) ?w ?e; (case w => assumption); (case e => rfl))
  | (refine' FR.Ow.get (i := 8) ?w ?e; (case w => assumption); (case e => rfl))
  | (refine' FR.Ow.get (i := 9) ?w ?e; (case w => assumption); (case e => rfl))
  | (refine' FR.Ow.get (i := 10) ?w ?e; (case w => assumption); (case e => rfl))
  | (refine' FR.Ow.get (i := 11) ?w ?e; (case w => assumption); (case e => rfl))
  | (refine' FR.Ow.get (i := 12) ?w ?e; (case w => assumption); (case e => rfl))
  | (refine' FR.Ow.get (i := 13) ?w ?e; (case w => assumption); (case e => rfl))
  | assumption)
local macro_rules | `(tactic| walk_at "ar") => `(tactic| first | assumption | omega | decide)
local macro_rules | `(tactic| walk_at "cd") => `(tactic| first
  | assumption | (with_reducible rfl) | exact (rfl : List.length _ = _) | (dsimp only; walk_at "ar") | walk_at "ar"
  | (refine And.intro (a := (_ : Int) < _) ?_ ?_ <;> walk_at "ar")
  | (refine And.intro (a := (0 : Int) ≤ _) ?_ (And.intro ?_ ?_) <;> walk_at "ar")
  | exact FR.size_le (by omega) | exact FR.size_ok (by omega)
  | (refine Or.inl (And.intro ?_ ?_) <;> walk_at "ar")
  | (refine Or.inr (And.intro ?_ ?_) <;> walk_at "ar"))
local macro_rules | `(tactic| walk_at "ty") => `(tactic| first
  | exact L2.TyOf.int _
  | exact L2.TyOf.str _
  | exact L2.TyOf.bl _
  | exact L2.TyOf.non
  | (refine' L2.TyOf.lst ?e; (case e => walk_at "hp"))
  | (refine' L2.TyOf.tup ?e; (case e => walk_at "hp"))
  | (refine' L2.TyOf.dK ?e; (case e => walk_at "hp")))
local macro_rules | `(tactic| walk_at "kit") => `(tactic| first
  | exact FR.ki_int_str
  | exact FR.ki_int_int
  | exact FR.ki_int_bool
  | exact FR.ki_int_list
  | exact FR.ki_int_tuple
  | exact FR.ki_int_dict
  | exact FR.ki_str_str
  | exact FR.ki_str_int
  | exact FR.ki_str_bool
  | exact FR.ki_str_list
  | exact FR.ki_str_tuple
  | exact FR.ki_str_dict
  | exact FR.ki_bl_str
  | exact FR.ki_bl_int
  | exact FR.ki_bl_bool
  | exact FR.ki_bl_list
  | exact FR.ki_bl_tuple
  | exact FR.ki_bl_dict
  | exact FR.ki_non_str
  | exact FR.ki_non_int
  | exact FR.ki_non_bool
  | exact FR.ki_non_list
  | exact FR.ki_non_tuple
  | exact FR.ki_non_dict
  | exact FR.ki_lst_str
  | exact FR.ki_lst_int
  | exact FR.ki_lst_bool
  | exact FR.ki_lst_list
  | exact FR.ki_lst_tuple
  | exact FR.ki_lst_dict
  | exact FR.ki_tup_str
  | exact FR.ki_tup_int
  | exact FR.ki_tup_bool
  | exact FR.ki_tup_list
  | exact FR.ki_tup_tuple
  | exact FR.ki_tup_dict
  | exact FR.ki_dK_str
  | exact FR.ki_dK_int
  | exact FR.ki_dK_bool
  | exact FR.ki_dK_list
  | exact FR.ki_dK_tuple
  | exact FR.ki_dK_dict)
local macro_rules | `(tactic| walk_at "isi") => `(tactic| (refine' ⟨_, _, _, _, _, rfl, L2.ClsV.ty _, L2.TyX.base ?k1, L2.kit_ty ?k2, ?k3⟩; (case k1 => walk_at "ty"); (case k2 => walk_at "kit")))
local macro_rules | `(tactic| walk_at "w1") => `(tactic| first
  | (refine' FR.with1 0 ?k1 ?k2 (by assumption) (by assumption) ?k3; (case k1 => assumption); (case k2 => rfl); intro W)
  | (refine' FR.with1 1 ?k1 ?k2 (by assumption) (by assumption) ?k3; (case k1 => assumption); (case k2 => rfl); intro W)
  | (refine' FR.with1 2 ?k1 ?k2 (by assumption) (by assumption) ?k3; (case k1 => assumption); (case k2 => rfl); intro W)
  | (refine' FR.with1 3 ?k1 ?k2 (by assumption) (by assumption) ?k3; (case k1 => assumption); (case k2 => rfl); intro W)
  | (refine' FR.with1 4 ?k1 ?k2 (by assumption) (by assumption) ?k3; (case k1 => assumption); (case k2 => rfl); intro W)
  | (refine' FR.with1 5 ?k1 ?k2 (by assumption) (by assumption) ?k3; (case k1 => assumption); (case k2 => rfl); intro W)
  | (refine' FR.with1 6 ?k1 ?k2 (by assumption) (by assumption) ?k3; (case k1 => assumption); (case k2 => rfl); intro W)
  | (refine' FR.with1 7 ?k1 ?k2 (by assumption) (by assumption) ?k3; (case k1 => assumption); (case k2 => rfl); intro W)
  | (refine' FR.with1 8 ?k1 ?k2 (by assumption) (by assumption) ?k3; (case k1 => assumption); (case k2 => rfl); intro W)
  | (refine' FR.with1 9 ?k1 ?k2 (by assumption) (by assumption) ?k3; (case k1 => assumption); (case k2 => rfl); intro W)
  | (refine' FR.with1 10 ?k1 ?k2 (by assumption) (by assumption) ?k3; (case k1 => assumption); (case k2 => rfl); intro W)
  | (refine' FR.with1 11 ?k1 ?k2 (by assumption) (by assumption) ?k3; (case k1 => assumption); (case k2 => rfl); intro W)
  | (refine' FR.with1 12 ?k1 ?k2 (by assumption) (by assumption) ?k3; (case k1 => assumption); (case k2 => rfl); intro W)
  | (refine' FR.with1 13 ?k1 ?k2 (by assumption) (by assumption) ?k3; (case k1 => assumption); (case k2 => rfl); intro W))
local macro_rules | `(tactic| walk_at "obj") => `(tactic| first
  | (refine FR.NewO.mk ?_; intro p H np kp hp; refine' FR.withN ?k1 np kp hp ?k2; (case k1 => assumption); intro W)
  | (refine FR.NewS.mk ?_; intro p H np sp kp hp; refine' FR.withN ?k1 np kp hp ?k2; (case k1 => assumption); intro W)
  | (refine FR.MutO.mk ?_; intro H kp hp; walk_at "w1"))
local macro_rules | `(tactic| walk_at "sz") => `(tactic| exact FR.size_ok (by (try simp only [List.length_map, List.length_append, List.length_cons, List.length_nil]); omega))
local macro_rules | `(tactic| walk_at "rd1") => `(tactic| first
  | (refine ⟨_, rfl, ?_⟩)
  | (refine ⟨_, _, rfl, rfl, ?_⟩)
  | (refine ⟨_, _, rfl, ?_⟩)
  | (refine' ⟨_, _, _, _, rfl, rfl, ?k1, ?k2, ?k3⟩; (case k1 => walk_at "hp"); (case k2 => rfl); walk_at "obj")
  | (refine' ⟨_, _, _, _, rfl, rfl, ?k1, ?k2, ?k3⟩; (case k1 => walk_at "sq"); (case k2 => rfl))
  | walk_at "obj"
  | (refine' ⟨_, _, _, rfl, rfl, ?k1, ?k2, ?k3⟩; (case k1 => walk_at "hp"); (case k2 => walk_at "sz"); walk_at "obj")
  | (refine And.intro (show List.length _ ≤ PySem.sizeLine from Nat.le_of_ble_eq_true rfl) ?_; walk_at "obj")
  | (refine' ⟨_, _, rfl, Or.inl ?k1, ?k2⟩; (case k1 => walk_at "sq"))
  | (refine FR.ifT rfl ?_) | (refine FR.ifF rfl ?_)
  | (refine And.intro (show L2.scal _ _ = true from rfl) ?_)
  | (refine And.intro (show L2.tyV _ "str" (L2.V.str _) _ from rfl) ?_)
  | (refine' And.intro (show L2.tyV _ "list" (L2.V.ref _) _ from Or.inl ⟨rfl, _, ?k1⟩) ?k2; (case k1 => walk_at "sq"))
  | (refine And.intro (Exists.intro _ rfl) ?_)
  | (refine And.intro (show L2.wipe _ _ = L2.wipe _ _ from rfl) ?_)
  | (refine And.intro (by walk_at "cd") ?_)
  | walk_at "isi")
local macro_rules | `(tactic| walk_at "rd") => `(tactic| repeat walk_at "rd1")
local macro_rules | `(tactic| walk_at "take") => `(tactic| (refine' ⟨_, _, _, _, _, _, rfl, ?k1, ?k2, ?k3, ?k4, ?k5, ?k6⟩; (case k1 => walk_at "hp"); (case k2 => assumption); (case k3 => omega); (case k4 => first | decide | omega); (case k5 => first | decide | omega); intro d x y z H d0 d1 ok kp hb; walk_at "w1"))
set_option Elab.async false
set_option linter.all false
set_option maxRecDepth 100000
namespace K86
open PySem PySem.Spec PyProof.Rows L2 FR
def top (i : Nat) : Stmt := PySem.Challenge.pw_filerights_k86_texts_of_goals.main.body.getD i (.Pass ⟨0, 0, 0, 0⟩)
abbrev s_is_name : Stmt := top 7
abbrev N_is_name : List Str := ["value"]
theorem sc_is_name : FnScope N_is_name ["value"] (defScope s_is_name) := ⟨rfl, rfl, rfl, by decide +kernel, rfl, by decide +kernel, by decide +kernel⟩
abbrev s_is_user_name : Stmt := top 8
abbrev N_is_user_name : List Str := ["value"]
theorem sc_is_user_name : FnScope N_is_user_name ["value"] (defScope s_is_user_name) := ⟨rfl, rfl, rfl, by decide +kernel, rfl, by decide +kernel, by decide +kernel⟩
abbrev s_is_path : Stmt := top 9
abbrev N_is_path : List Str := ["value", "letters", "part"]
theorem sc_is_path : FnScope N_is_path ["value"] (defScope s_is_path) := ⟨rfl, rfl, rfl, by decide +kernel, rfl, by decide +kernel, by decide +kernel⟩
abbrev s_split_words : Stmt := top 10
abbrev N_split_words : List Str := ["text", "separator", "words"]
theorem sc_split_words : FnScope N_split_words ["text", "separator"] (defScope s_split_words) := ⟨rfl, rfl, rfl, by decide +kernel, rfl, by decide +kernel, by decide +kernel⟩
abbrev s_is_aim : Stmt := top 14
abbrev N_is_aim : List Str := ["value", "word", "path"]
theorem sc_is_aim : FnScope N_is_aim ["value"] (defScope s_is_aim) := ⟨rfl, rfl, rfl, by decide +kernel, rfl, by decide +kernel, by decide +kernel⟩
abbrev s_goal_text : Stmt := top 16
abbrev N_goal_text : List Str := ["goal"]
theorem sc_goal_text : FnScope N_goal_text ["goal"] (defScope s_goal_text) := ⟨rfl, rfl, rfl, by decide +kernel, rfl, by decide +kernel, by decide +kernel⟩
abbrev s_read_goal : Stmt := top 17
abbrev N_read_goal : List Str := ["text", "words"]
theorem sc_read_goal : FnScope N_read_goal ["text"] (defScope s_read_goal) := ⟨rfl, rfl, rfl, by decide +kernel, rfl, by decide +kernel, by decide +kernel⟩
abbrev s_cell : Stmt := top 19
abbrev N_cell : List Str := ["_law_script", "_law_k"]
theorem sc_cell : FnScope N_cell ["_law_script", "_law_k"] (defScope s_cell) := ⟨rfl, rfl, rfl, by decide +kernel, rfl, by decide +kernel, by decide +kernel⟩
abbrev s_bag : Stmt := top 20
abbrev N_bag : List Str := ["_law_number"]
theorem sc_bag : FnScope N_bag ["_law_number"] (defScope s_bag) := ⟨rfl, rfl, rfl, by decide +kernel, rfl, by decide +kernel, by decide +kernel⟩
abbrev s_take : Stmt := top 21
abbrev N_take : List Str := ["_law_bag_here", "_law_count", "_law_digit", "_law_mixed"]
theorem sc_take : FnScope N_take ["_law_bag_here", "_law_count"] (defScope s_take) := ⟨rfl, rfl, rfl, by decide +kernel, rfl, by decide +kernel, by decide +kernel⟩
abbrev s_name : Stmt := top 22
abbrev N_name : List Str := ["_law_bag_here", "_law_letters", "_law_k"]
theorem sc_name : FnScope N_name ["_law_bag_here"] (defScope s_name) := ⟨rfl, rfl, rfl, by decide +kernel, rfl, by decide +kernel, by decide +kernel⟩
abbrev s_l_is_name : Stmt := top 23
abbrev N_l_is_name : List Str := ["_law_thing", "_law_sign"]
theorem sc_l_is_name : FnScope N_l_is_name ["_law_thing"] (defScope s_l_is_name) := ⟨rfl, rfl, rfl, by decide +kernel, rfl, by decide +kernel, by decide +kernel⟩
abbrev s_l_is_path : Stmt := top 24
abbrev N_l_is_path : List Str := ["_law_thing", "_law_name_here"]
theorem sc_l_is_path : FnScope N_l_is_path ["_law_thing"] (defScope s_l_is_path) := ⟨rfl, rfl, rfl, by decide +kernel, rfl, by decide +kernel, by decide +kernel⟩
abbrev s_fits : Stmt := top 25
abbrev N_fits : List Str := ["_law_thing"]
theorem sc_fits : FnScope N_fits ["_law_thing"] (defScope s_fits) := ⟨rfl, rfl, rfl, by decide +kernel, rfl, by decide +kernel, by decide +kernel⟩
abbrev s_tried : Stmt := top 26
abbrev N_tried : List Str := ["_law_way", "_law_thing", "e"]
theorem sc_tried : FnScope N_tried ["_law_way", "_law_thing"] (defScope s_tried) := ⟨rfl, rfl, rfl, by decide +kernel, rfl, by decide +kernel, by decide +kernel⟩
abbrev s_law : Stmt := top 27
abbrev N_law : List Str := ["_law_script", "_law_k", "_law_bag_here", "_law_word", "_law_path", "_law_user", "_law_goal_one", "_law_at", "_law_odd", "_law_things", "_law_thing", "_law_due", "_law_text_one", "_law_place", "_law_texts", "_law_words", "_law_turn"]
theorem sc_law : FnScope N_law ["_law_script"] (defScope s_law) := ⟨rfl, rfl, rfl, by decide +kernel, rfl, by decide +kernel, by decide +kernel⟩
structure Ads where
  f_is_name : Addr
  d_is_name : FuncData
  f_is_user_name : Addr
  d_is_user_name : FuncData
  f_is_path : Addr
  d_is_path : FuncData
  f_split_words : Addr
  d_split_words : FuncData
  f_is_aim : Addr
  d_is_aim : FuncData
  f_goal_text : Addr
  d_goal_text : FuncData
  f_read_goal : Addr
  d_read_goal : FuncData
  f_cell : Addr
  d_cell : FuncData
  f_bag : Addr
  d_bag : FuncData
  f_take : Addr
  d_take : FuncData
  f_name : Addr
  d_name : FuncData
  f_l_is_name : Addr
  d_l_is_name : FuncData
  f_l_is_path : Addr
  d_l_is_path : FuncData
  f_fits : Addr
  d_fits : FuncData
  f_tried : Addr
  d_tried : FuncData
  f_law : Addr
  d_law : FuncData
  C_InvalidGoal : Addr
  C_InvalidText : Addr
  C_RightsError : Addr
  C_MissingError : Addr
  I_InvalidGoal : Addr
  I_InvalidText : Addr
  K_PATH_AIMS : Addr
  K_USER_AIMS : Addr
structure Txt (K : PySem.W.Frag) (mg : Str → Option Value) (A : Ads) : Prop where
  F_is_name : Fun K "is_name" "is_name" s_is_name A.f_is_name A.d_is_name
  B_is_name : Binds K A.d_is_name ["value"] []
  g_is_name : mg "is_name" = some (.ref A.f_is_name)
  F_is_user_name : Fun K "is_user_name" "is_user_name" s_is_user_name A.f_is_user_name A.d_is_user_name
  B_is_user_name : Binds K A.d_is_user_name ["value"] []
  g_is_user_name : mg "is_user_name" = some (.ref A.f_is_user_name)
  F_is_path : Fun K "is_path" "is_path" s_is_path A.f_is_path A.d_is_path
  B_is_path : Binds K A.d_is_path ["value"] []
  g_is_path : mg "is_path" = some (.ref A.f_is_path)
  F_split_words : FunD K "split_words" "split_words" (defArgs s_split_words) (defBody s_split_words) (defScope s_split_words) [] [("separator", .str " ")] A.f_split_words A.d_split_words
  g_split_words : mg "split_words" = some (.ref A.f_split_words)
  F_is_aim : Fun K "is_aim" "is_aim" s_is_aim A.f_is_aim A.d_is_aim
  B_is_aim : Binds K A.d_is_aim ["value"] []
  g_is_aim : mg "is_aim" = some (.ref A.f_is_aim)
  F_goal_text : Fun K "goal_text" "goal_text" s_goal_text A.f_goal_text A.d_goal_text
  B_goal_text : Binds K A.d_goal_text ["goal"] []
  g_goal_text : mg "goal_text" = some (.ref A.f_goal_text)
  F_read_goal : Fun K "read_goal" "read_goal" s_read_goal A.f_read_goal A.d_read_goal
  B_read_goal : Binds K A.d_read_goal ["text"] []
  g_read_goal : mg "read_goal" = some (.ref A.f_read_goal)
  F_cell : Fun K "_law_cell" "_law_cell" s_cell A.f_cell A.d_cell
  B_cell : Binds K A.d_cell ["_law_script", "_law_k"] []
  g_cell : mg "_law_cell" = some (.ref A.f_cell)
  F_bag : Fun K "_law_bag" "_law_bag" s_bag A.f_bag A.d_bag
  B_bag : Binds K A.d_bag ["_law_number"] []
  g_bag : mg "_law_bag" = some (.ref A.f_bag)
  F_take : Fun K "_law_take" "_law_take" s_take A.f_take A.d_take
  B_take : Binds K A.d_take ["_law_bag_here", "_law_count"] []
  g_take : mg "_law_take" = some (.ref A.f_take)
  F_name : Fun K "_law_name" "_law_name" s_name A.f_name A.d_name
  B_name : Binds K A.d_name ["_law_bag_here"] []
  g_name : mg "_law_name" = some (.ref A.f_name)
  F_l_is_name : Fun K "_law_is_name" "_law_is_name" s_l_is_name A.f_l_is_name A.d_l_is_name
  B_l_is_name : Binds K A.d_l_is_name ["_law_thing"] []
  g_l_is_name : mg "_law_is_name" = some (.ref A.f_l_is_name)
  F_l_is_path : Fun K "_law_is_path" "_law_is_path" s_l_is_path A.f_l_is_path A.d_l_is_path
  B_l_is_path : Binds K A.d_l_is_path ["_law_thing"] []
  g_l_is_path : mg "_law_is_path" = some (.ref A.f_l_is_path)
  F_fits : Fun K "_law_fits" "_law_fits" s_fits A.f_fits A.d_fits
  B_fits : Binds K A.d_fits ["_law_thing"] []
  g_fits : mg "_law_fits" = some (.ref A.f_fits)
  F_tried : Fun K "_law_tried" "_law_tried" s_tried A.f_tried A.d_tried
  B_tried : Binds K A.d_tried ["_law_way", "_law_thing"] []
  g_tried : mg "_law_tried" = some (.ref A.f_tried)
  F_law : Fun K "law" "law" s_law A.f_law A.d_law
  B_law : Binds K A.d_law ["_law_script"] []
  g_law : mg "law" = some (.ref A.f_law)
  c_InvalidGoal : ∃ u, mg "InvalidGoal" = some u ∧ RelV (.ref A.C_InvalidGoal) u
  c_InvalidText : ∃ u, mg "InvalidText" = some u ∧ RelV (.ref A.C_InvalidText) u
  c_RightsError : ∃ u, mg "RightsError" = some u ∧ RelV (.ref A.C_RightsError) u
  c_MissingError : ∃ u, mg "MissingError" = some u ∧ RelV (.ref A.C_MissingError) u
  low_InvalidGoal : PySem.ExV.LowTxt K mg "InvalidGoal" "InvalidGoal.__init__" A.C_InvalidGoal A.I_InvalidGoal
  ec_InvalidGoal : ExcC K A.C_InvalidGoal
  low_InvalidText : PySem.ExV.LowTxt K mg "InvalidText" "InvalidText.__init__" A.C_InvalidText A.I_InvalidText
  ec_InvalidText : ExcC K A.C_InvalidText
  kit_InvalidGoal_RightsError : PySem.W.kitOne K (.ref A.C_InvalidGoal) (.ref A.C_RightsError) = some true
  kit_InvalidGoal_MissingError : PySem.W.kitOne K (.ref A.C_InvalidGoal) (.ref A.C_MissingError) = some false
  kit_InvalidText_RightsError : PySem.W.kitOne K (.ref A.C_InvalidText) (.ref A.C_RightsError) = some true
  kit_InvalidText_InvalidGoal : PySem.W.kitOne K (.ref A.C_InvalidText) (.ref A.C_InvalidGoal) = some false
  exm_InvalidText_InvalidGoal : PySem.W.exmOne K (.ref A.C_InvalidText) (.ref A.C_InvalidGoal) = some false
  c_LONGEST_NAME : ∃ u, mg "LONGEST_NAME" = some u ∧ RelV (.int 8) u
  c_PATH_AIMS : ∃ u, mg "PATH_AIMS" = some u ∧ RelV (.ref A.K_PATH_AIMS) u
  tu_PATH_AIMS : ∃ o its n, List.lookup A.K_PATH_AIMS K = some o ∧ o.cls = .type "tuple" ∧ o.data = .seq its n ∧ its.size ≤ sizeLine ∧ Vals [.str "read", .str "write", .str "gone", .str "lost", .str "made"] its.toList
  c_USER_AIMS : ∃ u, mg "USER_AIMS" = some u ∧ RelV (.ref A.K_USER_AIMS) u
  tu_USER_AIMS : ∃ o its n, List.lookup A.K_USER_AIMS K = some o ∧ o.cls = .type "tuple" ∧ o.data = .seq its n ∧ its.size ≤ sizeLine ∧ Vals [.str "led", .str "shut"] its.toList
  b_all : mg "all" = none
  b_isinstance : mg "isinstance" = none
  b_len : mg "len" = none
  b_list : mg "list" = none
  b_max : mg "max" = none
  b_min : mg "min" = none
  b_range : mg "range" = none
  b_repr : mg "repr" = none
  b_str : mg "str" = none
  b_tuple : mg "tuple" = none


end K86
namespace K86
open PySem PySem.Spec PyProof.Rows L2 FR
section
variable {P : Program} {w : World} {K : PySem.W.Frag} {mg : Str → Option Value} {base : Heap} {A : Ads}
set_option pp.maxSteps 120
theorem ok_take (T : Txt K mg A) : FnOk P w K mg base CX0 1 A.f_take A.d_take ["_law_bag_here", "_law_count"] spTake := by
  refine T.F_take.ok sc_take (fun vs H Q E h => ?_) (fun cdv A_ outer s H vs Q E hr h => ?_)
  · obtain ⟨b, k, n, x, y, z, rfl, _⟩ := h
    rfl
  · obtain ⟨b, k, n, x, y, z, rfl, hb, ok, hn, k0, k1, q⟩ := h
    have W := Ow.start1 hb
    have y0 := ok.y0; have y1 := ok.y1; have z0 := ok.z0; have z1 := ok.z1
    refine ⟨_, (pss_cons (ps_if (pt_cmpR op_gt (pe_ix ix_list (pv 0) pe_int (fun _ _ => rfl)) pe_int (nomark _)) (pss_cons (ps_set (i := 2) sc_take.nd rfl (.inl rfl) (pe_op op_mod (pe_ix ix_list (pv 0) pe_int (fun _ _ => rfl)) (pv 1)))
  (pss_cons (ps_asg (pe_op op_fdiv (pe_ix ix_list (pv 0) pe_int (fun _ _ => rfl)) (pv 1)) (pg_sub (pv 0) pe_int set_listN))
  (pss_one (ps_ret (pv 2))))) pss_nil)
  (pss_cons (ps_asg (pe_op op_add (pe_ix ix_list (pv 0) pe_int (fun _ _ => rfl)) pe_int) (pg_sub (pv 0) pe_int set_listN))
  (pss_cons (ps_set (i := 3) sc_take.nd rfl (.inl rfl) (pe_op op_mod (pe_op op_pow (pe_op op_add (pe_op op_add (pe_ix ix_list (pv 0) pe_int (fun _ _ => rfl)) (pe_op op_mul pe_int (pe_ix ix_list (pv 0) pe_int (fun _ _ => rfl)))) pe_int) pe_int) pe_int))
  (pss_cons (ps_set (i := 3) sc_take.nd rfl (.inl rfl) (pe_op op_mod (pe_op op_pow (pe_op op_add (pv 3) (pe_op op_mul pe_int (pe_ix ix_list (pv 0) pe_int (fun _ _ => rfl)))) pe_int) pe_int))
  (pss_one (ps_ret (pe_op op_mod (pe_op op_fdiv (pv 3) pe_int) (pv 1)))))))), ?_⟩
    walk_at "rd"
    refine ite2 (fun c => ?_) (fun c => ?_)
    · have c' : 0 < x := of_decide_eq_true c
      walk_at "rd"
      rename_i H1 kp hp W1
      exact q _ (x / k) y z H1 (Int.emod_nonneg _ (by omega)) (Int.emod_lt_of_pos _ k0) ⟨Int.ediv_nonneg ok.x0 (by omega), y0, y1, z0, by omega⟩ kp hp
    · walk_at "rd"
      rename_i H1 kp hp W1
      exact q _ x y (z + 1) H1 (Int.emod_nonneg _ (by omega)) (Int.emod_lt_of_pos _ k0) ⟨ok.x0, y0, y1, by omega, by omega⟩ kp hp
def spCell (K : PySem.W.Frag) : Sp := fun vs H Q _ => ∃ (a : Addr) (ns : List Int) (k : Int), vs = [.ref a, .int k] ∧ SqL K H a (ns.map V.int) ∧ 0 ≤ k ∧ k < 1000 ∧ ∀ n, Q (.int n) H
theorem ok_cell (T : Txt K mg A) : FnOk P w K mg base CX0 1 A.f_cell A.d_cell ["_law_script", "_law_k"] (spCell K) := by
  refine T.F_cell.ok sc_cell (fun vs H Q E h => ?_) (fun cdv A_ outer s H vs Q E hr h => ?_)
  · obtain ⟨a, ns, k, rfl, _⟩ := h
    rfl
  · obtain ⟨a, ns, k, rfl, hS, h0, hk, q⟩ := h
    obtain ⟨j, rfl⟩ := Int.eq_ofNat_of_zero_le h0
    refine ⟨_, (pss_cons (ps_if (pt_cmpR op_lt (pv 1) (pe_callB call_len_seq (by rfl) T.b_len PySem.boot_len (pa_cons (pv 0) pa_nil)) (nomark _)) (pss_one (ps_ret (pe_ix ix_list (pv 0) (pv 1) (fun _ _ => rfl)))) pss_nil)
  (pss_one (ps_ret (pe_op op_add (pe_op op_mul pe_int (pv 1)) pe_int)))), ?_⟩
    walk_at "rd"
    refine ifD (fun c => ?_) (fun c => ?_)
    · have c2 : j < ns.length := by rw [List.length_map] at c; omega
      refine ⟨_, rfl, _, rfl, _, _, _, .int ns[j], rfl, rfl, hS, atI_nat (by rw [List.getElem?_map, List.getElem?_eq_getElem c2]; rfl), q _⟩
    · walk_at "rd"
      exact q _
def spBag : Sp := fun vs H Q _ => ∃ n : Int, vs = [.int n] ∧ ∀ x y z, BagOk 0 x y z → NewO (bagO x y z) Q H
theorem ok_bag (T : Txt K mg A) : FnOk P w K mg base CX0 1 A.f_bag A.d_bag ["_law_number"] spBag := by
  refine T.F_bag.ok sc_bag (fun vs H Q E h => ?_) (fun cdv A_ outer s H vs Q E hr h => ?_)
  · obtain ⟨n, rfl, _⟩ := h
    rfl
  · obtain ⟨n, rfl, q⟩ := h
    have W : Ow H [] H [] := Ow.start0
    refine ⟨_, (pss_one (ps_ret (pe_lstS (pa_cons (pe_callB (call_max2 rfl) (by rfl) T.b_max (by decide +kernel) (pa_cons pe_int (pa_cons (pe_op op_sub (pv 0) (pe_op op_pow pe_int pe_int)) pa_nil))) (pa_cons (pe_op op_mod (pv 0) pe_int) (pa_cons pe_int pa_nil)))))), ?_⟩
    have q' := q (if n - 10 ^ 18 > 0 then n - 10 ^ 18 else 0) (n % 2147483629) 0 ⟨by split <;> omega, Int.emod_nonneg _ (by decide), Int.lt_trans (Int.emod_lt_of_pos _ (by decide)) (by decide), by omega, by omega⟩
    walk_at "rd"
    rename_i p H1 np sp kp hp W1
    exact q'.to p H1 np kp hp
end
end K86
namespace K86
open PySem PySem.Spec PyProof.Rows L2 FR TL
open C8 (pss_cut pe_gc)
/-- a word's name: one to eight small letters -/
def nm (s : Str) : Bool := decide (s ≠ Str.ofString "" ∧ s.length ≤ 8) && (tl s).all lc
theorem alpha_lc : ∀ c : Fin 128, Unicode.isAlpha c.1 = true → (Unicode.isUpper c.1 || Unicode.isTitle c.1) = false → lc c.1 = true := by decide +kernel
theorem empty_iff (s : Str) : s = Str.ofString "" ↔ tl s = [] := ⟨fun h => by rw [h]; decide +kernel, fun h => ext_tl (by rw [h]; decide +kernel)⟩
theorem name_eq {s : Str} (a : Asc s) : (Txt.isalpha s && Txt.islower s) = (decide (s ≠ Str.ofString "") && (tl s).all lc) := by
  show ((decide (s.length > 0) && s.cps.all Unicode.isAlpha) && (s.cps.any Unicode.isLower && !s.cps.any fun c => Unicode.isUpper c || Unicode.isTitle c)) = _
  rw [all_tl, any_tl, any_tl, len_tl, show decide (s ≠ Str.ofString "") = decide (tl s ≠ []) from decide_eq_decide.mpr (not_congr (empty_iff s))]
  have ha := a
  unfold Asc at ha
  generalize tl s = l at ha
  rw [Bool.eq_iff_iff]
  simp only [Bool.and_eq_true, decide_eq_true_eq, List.all_eq_true, List.any_eq_true, Bool.not_eq_true', List.any_eq_false]
  constructor
  · rintro ⟨⟨h0, h1⟩, _, h3⟩
    exact ⟨fun e => by subst e; simp at h0, fun c hc => alpha_lc ⟨c, ha c hc⟩ (h1 c hc) (by simpa using h3 c hc)⟩
  · rintro ⟨h0, h1⟩
    refine ⟨⟨List.length_pos_iff.mpr h0, fun c hc => (lc_alpha ⟨c, ha c hc⟩ (h1 c hc)).1⟩, ?_, fun c hc => by have := (lc_alpha ⟨c, ha c hc⟩ (h1 c hc)).2.2; simpa using this⟩
    obtain ⟨c, hc⟩ := List.exists_mem_of_ne_nil _ h0
    exact ⟨c, hc, (lc_alpha ⟨c, ha c hc⟩ (h1 c hc)).2.1⟩
/-- a text, or something else -/
def Thing (K : PySem.W.Frag) (H : Hp) (v : V) (qs : Str → Prop) (qo : Prop) : Prop := (∃ s, v = .str s ∧ s.length ≤ 100000 ∧ Asc s ∧ qs s) ∨ ((∃ t, TyX K H v (.type t) ∧ kitB t "str" = some false) ∧ qo)
section
variable {P : Program} {w : World} {K : PySem.W.Frag} {mg : Str → Option Value} {base : Heap} {A : Ads}
set_option pp.maxSteps 120
def spName (K : PySem.W.Frag) : Sp := fun vs H Q _ => ∃ v, vs = [v] ∧ Thing K H v (fun s => Q (.bl (nm s)) H) (Q (.bl false) H)
theorem ok_is_name (T : Txt K mg A) : FnOk P w K mg base CX0 1 A.f_is_name A.d_is_name ["value"] (spName K) := by
  refine T.F_is_name.ok sc_is_name (fun vs H Q E h => ?_) (fun cdv A_ outer s_ H vs Q E hr h => ?_)
  · obtain ⟨v, rfl, _⟩ := h
    rfl
  · obtain ⟨v, rfl, q⟩ := h
    refine ⟨_, (pss_cons (ps_if (PW.pt (pw_or (pt_not (pt_val (pe_callB call_isi (by rfl) T.b_isinstance (by decide +kernel) (pa_cons (pv 0) (pa_cons (pe_bltn (v := .ty "str") rfl T.b_str (by decide +kernel) rfl) pa_nil))))) (pw_or1 (pt_cmpR op_gt (pe_callB call_len_str (by rfl) T.b_len PySem.boot_len (pa_cons (pv 0) pa_nil)) (pe_gc rfl T.c_LONGEST_NAME) (nomark _))))) (pss_one (ps_ret pe_bl)) pss_nil)
  (pss_one (ps_ret (pe_and (pe_bm0 PySem.F.plainAttrs_str PySem.F.slot_str_isascii PySem.F.type_str_isascii mt_isascii (pv 0)) (pe_and (pe_bm0 PySem.F.plainAttrs_str PySem.F.slot_str_isalpha PySem.F.type_str_isalpha mt_isalpha (pv 0)) (pe_one (pe_bm0 PySem.F.plainAttrs_str PySem.F.slot_str_islower PySem.F.type_str_islower mt_islower (pv 0)))))))), ?_⟩
    rcases q with ⟨s, rfl, hl, ha, q⟩ | ⟨⟨t, ty, kt⟩, q⟩
    · have hz : s.length ≤ sizeLine := size_le (by omega)
      have en := name_eq ha
      have ea := isascii_asc ha
      walk_at "rd"
      refine ifD (fun c => ?_) (fun c => ?_)
      · walk_at "rd"
        rw [show nm s = false by unfold nm; rw [decide_eq_false (fun h => by have := h.2; omega)]; rfl] at q
        exact q
      · walk_at "rd"
        have hn : nm s = (Txt.isalpha s && Txt.islower s) := by
          rw [en]
          unfold nm
          by_cases h : s = Str.ofString ""
          · rw [decide_eq_false (fun z => z.1 h), decide_eq_false (fun z => z h)]
          · rw [decide_eq_true ⟨h, by omega⟩, decide_eq_true h]
        rw [hn] at q
        refine ifT ea ?_
        walk_at "rd"
        refine ifB (fun c1 => ?_) (fun c1 => ?_)
        · rw [c1] at q
          walk_at "rd"
          exact q
        · rw [c1] at q
          exact q
    · walk_at "rd"
      refine ⟨_, _, _, _, _, rfl, .ty _, ty, kit_ty kt, ?_⟩
      walk_at "rd"
      exact q
end
theorem cut_hd (s : Str) : tl (cutS s none (some 1)) = (tl s).take 1 := by
  rw [tl_cutS]
  show ((tl s).drop 0).take (HT.sIx s.length s.length (some ((1 : Nat) : Int)) - 0) = _
  rw [HT.sIx_nat, len_tl]
  cases tl s with
  | nil => simp
  | cons c r => rw [List.length_cons, show min 1 (r.length + 1) = 1 by omega]; rfl
theorem cut_tl (s : Str) : tl (cutS s (some 1) none) = (tl s).drop 1 := by
  rw [tl_cutS]
  show ((tl s).drop (HT.sIx s.length 0 (some ((1 : Nat) : Int)))).take (s.length - HT.sIx s.length 0 (some ((1 : Nat) : Int))) = _
  rw [HT.sIx_nat, len_tl]
  cases tl s with
  | nil => simp
  | cons c r => rw [List.length_cons, show min 1 (r.length + 1) = 1 by omega]; simp
theorem cutV_tl (xs : List V) : cutV xs (some 1) none = xs.drop 1 := by
  show (xs.drop (HT.sIx xs.length 0 (some ((1 : Nat) : Int)))).take (xs.length - HT.sIx xs.length 0 (some ((1 : Nat) : Int))) = _
  rw [HT.sIx_nat]
  cases xs with
  | nil => simp
  | cons c r => rw [List.length_cons, show min 1 (r.length + 1) = 1 by omega]; simp
theorem hd_eq (s : Str) : cutS s none (some 1) = Str.ofString "/" ↔ Txt.startswith s ⟨#[47]⟩ = true := by
  rw [starts_one, slash]
  constructor
  · intro h
    have := congrArg tl h
    rw [cut_hd] at this
    cases e : tl s with
    | nil => rw [e] at this; cases this
    | cons c r =>
      rw [e] at this
      have : c = 47 := (List.cons.inj (show [c] = [47] from this)).1
      rw [this]; rfl
  · intro h
    refine ext_tl ?_
    rw [cut_hd]
    cases e : tl s with
    | nil => rw [e] at h; cases h
    | cons c r =>
      rw [e] at h
      have : c = 47 := by simpa using h
      rw [this]; rfl
theorem split_from {s : Str} (h : Txt.startswith s ⟨#[47]⟩ = true) : (Txt.split s ⟨#[47]⟩).drop 1 = Txt.split (cutS s (some 1) none) ⟨#[47]⟩ := by
  rw [starts_one] at h
  refine map_tl_inj ?_
  rw [List.map_drop, split_tl _ (by decide), split_tl _ (by decide), cut_tl]
  cases e : tl s with
  | nil => rw [e] at h; cases h
  | cons c r =>
    rw [e] at h
    have : c = 47 := by simpa using h
    rw [this, spl_hit (by rw [pre_one]; rfl)]
    rfl
theorem spl_le : ∀ (l acc : List Nat) (c : Nat), ∀ p ∈ spl [c] 0 acc l, p.length ≤ acc.length + l.length
  | [], acc, c, p, hp => by
    rw [spl_nil] at hp
    rw [List.mem_singleton.mp hp]
    exact Nat.le_add_right _ _
  | x :: r, acc, c, p, hp => by
    by_cases e : pre [c] (x :: r) = true
    · rw [spl_hit e] at hp
      rcases List.mem_cons.mp hp with rfl | hp
      · exact Nat.le_add_right _ _
      · have := spl_le r [] c p hp
        rw [List.length_cons]
        have h0 : ([] : List Nat).length = 0 := rfl
        omega
    · rw [spl_miss (by simpa using e)] at hp
      have := spl_le r (acc ++ [x]) c p hp
      rw [List.length_append] at this
      rw [List.length_cons]
      have h0 : [x].length = 1 := rfl
      omega
theorem split_le {s : Str} {c : Nat} (h : c < 256) : ∀ w ∈ Txt.split s ⟨#[c]⟩, w.length ≤ s.length := fun w hw => by
  have : tl w ∈ (Txt.split s ⟨#[c]⟩).map tl := List.mem_map_of_mem hw
  rw [split_tl s h] at this
  have := spl_le (tl s) [] c _ this
  rw [len_tl, len_tl s]
  simpa using this
/-- a path: / alone, or / and names with / between them -/
def pth (s : Str) : Bool := Txt.startswith s ⟨#[47]⟩ && (decide (s = ⟨#[47]⟩) || ((Txt.split s ⟨#[47]⟩).drop 1).all nm)
section
variable {P : Program} {w : World} {K : PySem.W.Frag} {mg : Str → Option Value} {base : Heap} {A : Ads}
set_option pp.maxSteps 120
def spPath (K : PySem.W.Frag) : Sp := fun vs H Q _ => ∃ v, vs = [v] ∧ Thing K H v (fun s => ∀ H', Keep [] H H' → Q (.bl (pth s)) H') (Q (.bl false) H)
theorem ok_is_path (T : Txt K mg A) : FnOk P w K mg base CX0 1 A.f_is_path A.d_is_path ["value"] (spPath K) := by
  refine okT T.F_is_path sc_is_path (by decide +kernel) (by decide) (fun vs H Q E h => ?_) (fun cdv A_ outer s_ H vs Q E hr h => ?_)
  · obtain ⟨v, rfl, _⟩ := h
    rfl
  · obtain ⟨v, rfl, q⟩ := h
    have W : Ow H [] H [] := Ow.start0
    refine ⟨_, (psst_cons (PST.of (ps_if (PW.pt (pw_or (pt_not (pt_val (pe_callB call_isi (by rfl) T.b_isinstance (by decide +kernel) (pa_cons (pv 0) (pa_cons (pe_bltn (v := .ty "str") rfl T.b_str (by decide +kernel) rfl) pa_nil))))) (pw_or1 (pt_not (pt_val (pe_m1 PySem.F.slot_str_startswith PySem.F.type_str_startswith mt_startswith (pv 0) pe_str)))))) (pss_one (ps_ret pe_bl)) pss_nil))
  (psst_cons (PST.of (ps_if (pt_cmpR op_eq (pv 0) pe_str (nomark _)) (pss_one (ps_ret pe_bl)) pss_nil))
  (psst_cons (FR.pst_asg (CwR.pet_replC (pv 0)) (pg_name (i := 1) sc_is_path.nd rfl (.inl rfl)))
  (PSsT.of (pss_cons (ps_if (PW.pt (pw_or (pt_not (pt_val (pe_bm0 PySem.F.plainAttrs_str PySem.F.slot_str_isascii PySem.F.type_str_isascii mt_isascii (pv 1)))) (pw_or (pt_not (pt_val (pe_bm0 PySem.F.plainAttrs_str PySem.F.slot_str_isalpha PySem.F.type_str_isalpha mt_isalpha (pv 1)))) (pw_or1 (pt_not (pt_val (pe_bm0 PySem.F.plainAttrs_str PySem.F.slot_str_islower PySem.F.type_str_islower mt_islower (pv 1)))))))) (pss_one (ps_ret pe_bl)) pss_nil)
  (pss_one (ps_ret (pe_callB (cr_all rfl) (by rfl) T.b_all (by decide +kernel) (pa_cons (pe_lc (own := [("part", 2)]) (g := gName 2) rfl sc_is_path.nd (pi_list (pe_slice sl_listN (pe_m1 PySem.F.slot_str_split PySem.F.type_str_split mt_splN (pv 0) pe_str) (po_some pe_int) po_none)) (blkOk_by (own := [("part", 2)]) (N := N_is_path) (sc := defScope s_is_path) (by decide +kernel)) (fun _ _ _ _ _ => pg_name (i := 2) sc_is_path.nd rfl (Or.inl rfl)) (fun _ _ _ _ _ => pts_nil) (fun _ _ _ _ _ => (pe_chain op_le op_le pe_int (pe_callB call_len_str (by rfl) T.b_len PySem.boot_len (pa_cons (pv 2) pa_nil)) (pe_gc rfl T.c_LONGEST_NAME)))) pa_nil))))))))), ?_⟩
    rcases q with ⟨s, rfl, hl, ha, q⟩ | ⟨⟨t, ty, kt⟩, q⟩
    · have hz : s.length ≤ sizeLine := size_le (by omega)
      unfold pth at q
      walk_at "rd"
      refine ifNB (b := Txt.startswith s (Str.ofString "/")) (fun c => ?_) (fun c => ?_)
      · walk_at "rd"
        rw [slash] at c
        rw [c] at q
        exact q H Keep.refl
      rw [slash] at c
      have hsp : ((Txt.split s ⟨#[47]⟩).drop 1).all nm = _ := path_split c lc
      rw [c, hsp] at q
      walk_at "rd"
      refine ifVS (fun e => ?_) (fun e => ?_)
      · walk_at "rd"
        rw [decide_eq_true (e.trans slash)] at q
        exact q H Keep.refl
      rw [decide_eq_false (fun h => e (h.trans slash.symm))] at q
      walk_at "rd"
      have hna := noSl_asc ha
      have hne := name_eq hna
      refine ifNB (b := Txt.isascii (noSl s)) (fun c => absurd (isascii_asc hna) (by rw [c]; decide)) (fun c => ?_)
      walk_at "rd"
      refine ifNB (b := Txt.isalpha (noSl s)) (fun c => ?_) (fun c => ?_)
      · walk_at "rd"
        rw [← hne, c] at q
        exact q H Keep.refl
      rw [c] at hne
      walk_at "rd"
      refine ifNB (b := Txt.islower (noSl s)) (fun c => ?_) (fun c => ?_)
      · walk_at "rd"
        rw [← hne, c] at q
        exact q H Keep.refl
      rw [c] at hne
      rw [← hne] at q
      walk_at "rd"
      rename_i p1 H1 np1 kp1 hp1 W1
      refine ⟨_, _, rfl, W1.sq 0 rfl, ?_⟩
      rw [cutV_tl, slash, ← List.map_drop]
      have hpl : ∀ x ∈ (Txt.split s ⟨#[47]⟩).drop 1, x.length ≤ s.length ∧ Asc x := fun x hx => ⟨split_le (by decide) x (List.mem_of_mem_drop hx), split_asc (by decide) ha x (List.mem_of_mem_drop hx)⟩
      have hpn : ((Txt.split s ⟨#[47]⟩).drop 1).length ≤ s.length + 1 := by
        rw [List.length_drop]
        have := split_len (s := s) (c := 47) (by decide)
        omega
      generalize (Txt.split s ⟨#[47]⟩).drop 1 = ps at q hpl hpn
      walk_at "obj"
      rename_i p2 H2 np2 kp2 hp2 W2
      refine ⟨_, rfl, ⟨_, W2.sq 0 rfl⟩, fun D hD => ?_⟩
      refine lc_li (a := p2) (xs := ps.map V.str) (fun pre H' => ∃ ws : List Str, pre = ws.map V.str ∧ Ow H [] H' [(D, .lst ((ws.map (fun u => decide (1 ≤ u.length ∧ u.length ≤ 8))).map V.bl)), (p2, .lst (ps.map V.str)), (p1, _)]) ⟨[], rfl, W2.new hD⟩ ?_ ?_ ?_
      · rintro pre post H3 e ⟨ws, _, W3⟩
        exact W3.sq 1 rfl
      · rintro pre x post H3 e ⟨ws, rfl, W3⟩
        obtain ⟨u, hu, rfl⟩ := List.mem_map.mp (show x ∈ ps.map V.str by rw [e]; simp)
        have hwl : ws.length ≤ ps.length := by
          have := congrArg List.length e
          rw [List.length_append, List.length_map, List.length_map] at this
          omega
        have hul := (hpl u hu).1
        walk_at "rd"
        refine ite2 (fun c => ?_) (fun c => ?_)
        · have c' : 1 ≤ u.length := by have := of_decide_eq_true c; omega
          refine ⟨_, _, rfl, rfl, ?_⟩
          refine ⟨_, W3.get 0 rfl, size_ok (by rw [List.length_map, List.length_map]; omega), ws ++ [u], by rw [List.map_append]; rfl, ?_⟩
          rw [List.map_append, List.map_append]
          show Ow H [] (upd H3 D (.lst (_ ++ [V.bl (decide ((u.length : Int) ≤ 8))]))) _
          rw [show decide ((u.length : Int) ≤ 8) = decide (1 ≤ u.length ∧ u.length ≤ 8) from decide_eq_decide.mpr ⟨fun h => ⟨c', by omega⟩, fun h => by omega⟩]
          exact W3.set 0 rfl
        · refine ⟨_, W3.get 0 rfl, size_ok (by rw [List.length_map, List.length_map]; omega), ws ++ [u], by rw [List.map_append]; rfl, ?_⟩
          rw [List.map_append, List.map_append]
          have c' : ¬ 1 ≤ (u.length : Int) := fun h => c (decide_eq_true h)
          show Ow H [] (upd H3 D (.lst (_ ++ [V.bl false]))) _
          rw [show false = decide (1 ≤ u.length ∧ u.length ≤ 8) from (decide_eq_false (fun h => c' (by omega))).symm]
          exact W3.set 0 rfl
      · rintro H3 ⟨ws, e, W3⟩
        have e' : ps = ws := by
          have : ps.map V.str = ws.map V.str := e
          exact (List.map_inj_right (fun a b h => V.str.inj h)).mp this
        subst e'
        refine ⟨_, _, rfl, W3.sq 0 rfl, ?_⟩
        rw [List.all_map]
        exact q H3 W3.keep
    · walk_at "rd"
      refine ⟨_, _, _, _, _, rfl, .ty _, ty, kit_ty kt, ?_⟩
      walk_at "rd"
      exact q
end
end K86
namespace K86
open PySem PySem.Spec PyProof.Rows L2 FR TL
open C8 (pss_cut pe_gc)
open StX (pe_callS2 pa_star)
/-- what stands in a goal, or in its place -/
inductive Leaf (H : Hp) : V → Prop
  | str (s : Str) : s.length ≤ 1000 → Asc s → Leaf H (.str s)
  | non : Leaf H .non
  | int : Leaf H (.int 7)
  | lst {a : Addr} : H a = some (.lst []) → Leaf H (.ref a)
theorem Leaf.keep {H H' : Hp} {v : V} (h : Leaf H v) (k : Keep [] H H') : Leaf H' v := by
  cases h with
  | str s h1 h2 => exact .str s h1 h2
  | non => exact .non
  | int => exact .int
  | lst e => exact .lst (k _ _ e (by simp))
def inA (ws : List Str) : V → Bool
  | .str s => decide (s ∈ ws)
  | _ => false
theorem Leaf.dp {K : PySem.W.Frag} {H : Hp} {v : V} (h : Leaf H v) : ∃ d, Dp K H v d ∧ SeqAt.shaped d = true ∧ ∀ ws : List Str, ((ws.map PyData.str).any fun z => PyData.eqv z d) = inA ws v := by
  cases h with
  | str s h1 h2 =>
    refine ⟨.str s, .str s, ?_, fun ws => ?_⟩
    · unfold SeqAt.shaped
      rw [Bool.and_eq_true]
      exact ⟨str_ok h2, decide_eq_true (by unfold PyData.depth; decide)⟩
    · unfold inA
      rw [Bool.eq_iff_iff, List.any_eq_true, decide_eq_true_eq]
      constructor
      · rintro ⟨z, hz, e⟩
        obtain ⟨w, hw, rfl⟩ := List.mem_map.mp hz
        have : w = s := by simpa [PyData.eqv] using e
        rw [← this]
        exact hw
      · intro hs
        exact ⟨.str s, List.mem_map.mpr ⟨s, hs, rfl⟩, by simp [PyData.eqv]⟩
  | non =>
    refine ⟨.none, .non, by decide +kernel, fun ws => ?_⟩
    induction ws with
    | nil => rfl
    | cons w r ih => simp [inA, PyData.eqv]
  | int =>
    refine ⟨.int 7, .int 7, ?_, fun ws => ?_⟩
    · unfold SeqAt.shaped
      rw [Bool.and_eq_true]
      exact ⟨rfl, decide_eq_true (by unfold PyData.depth; decide)⟩
    · induction ws with
      | nil => rfl
      | cons w r ih => simp [inA, PyData.eqv]
  | lst e =>
    refine ⟨.list [], .lst (.inl (.inl e)) .nil, by decide +kernel, fun ws => ?_⟩
    induction ws with
    | nil => rfl
    | cons w r ih => simp [inA, PyData.eqv]
def nmV : V → Bool
  | .str s => nm s
  | _ => false
def pthV : V → Bool
  | .str s => pth s
  | _ => false
def userV : V → Bool
  | .str s => nm s && decide (s ≠ Str.ofString "root")
  | _ => false
def paths : List Str := ["read", "write", "gone", "lost", "made"]
def users : List Str := ["led", "shut"]
/-- a goal's form -/
def fits : List V → Bool
  | [a, p] => pthV p && inA paths a
  | [a, u, p] => pthV p && (inA users a && userV u)
  | _ => false
theorem fits2 (a p : V) : fits [a, p] = (pthV p && inA paths a) := rfl
theorem fits3 (a u p : V) : fits [a, u, p] = (pthV p && (inA users a && userV u)) := rfl
theorem Leaf.thing {K : PySem.W.Frag} {H : Hp} {v : V} (h : Leaf H v) {qs : Str → Prop} {qo : Prop} (q1 : ∀ s, v = .str s → qs s) (q2 : (∀ s, v ≠ .str s) → qo) : Thing K H v qs qo := by
  cases h with
  | str s h1 h2 => exact .inl ⟨s, rfl, by omega, h2, q1 s rfl⟩
  | non => exact .inr ⟨⟨_, .base .non, ki_non_str⟩, q2 (fun s e => by cases e)⟩
  | int => exact .inr ⟨⟨_, .base (.int _), ki_int_str⟩, q2 (fun s e => by cases e)⟩
  | lst e => exact .inr ⟨⟨_, .base (.lst e), ki_lst_str⟩, q2 (fun s e => by cases e)⟩
theorem Leaf.asPath {K : PySem.W.Frag} {H : Hp} {v : V} (h : Leaf H v) {F : V → Hp → Prop} (q : ∀ H', Keep [] H H' → F (.bl (pthV v)) H') : Thing K H v (fun s => ∀ H', Keep [] H H' → F (.bl (pth s)) H') (F (.bl false) H) :=
  h.thing (fun s e => by subst e; exact q) (fun hn => by
    have := q H Keep.refl
    rw [show pthV v = false by cases v <;> first | rfl | exact absurd rfl (hn _)] at this
    exact this)
namespace X
section
variable {P : Program} {w : World} {K : PySem.W.Frag} {mg : Str → Option Value} {base : Heap} {A : Ads}
set_option pp.maxSteps 120
theorem ok_is_name (T : Txt K mg A) : FnOk P w K mg base CX0 1 A.f_is_name A.d_is_name ["value"] (fun vs H Q _ => ∃ v, vs = [v] ∧ Leaf H v ∧ Q (.bl (nmV v)) H) :=
  (K86.ok_is_name T).imp fun vs H Q E h => by
    obtain ⟨v, rfl, hv, q⟩ := h
    refine ⟨v, rfl, hv.thing (fun s e => by subst e; exact q) (fun hn => ?_)⟩
    rw [show nmV v = false by cases v <;> first | rfl | exact absurd rfl (hn _)] at q
    exact q
theorem ok_is_path (T : Txt K mg A) : FnOk P w K mg base CX0 1 A.f_is_path A.d_is_path ["value"] (fun vs H Q _ => ∃ v, vs = [v] ∧ Leaf H v ∧ ∀ H', Keep [] H H' → Q (.bl (pthV v)) H') :=
  (K86.ok_is_path T).imp fun vs H Q E h => by
    obtain ⟨v, rfl, hv, q⟩ := h
    exact ⟨v, rfl, hv.asPath (F := fun v H => Q v H) q⟩
theorem ok_is_user_name (T : Txt K mg A) : FnOk P w K mg base CX0 2 A.f_is_user_name A.d_is_user_name ["value"] (fun vs H Q _ => ∃ v, vs = [v] ∧ Leaf H v ∧ Q (.bl (userV v)) H) := by
  refine T.F_is_user_name.ok sc_is_user_name (fun vs H Q E h => ?_) (fun cdv A_ outer s_ H vs Q E hr h => ?_)
  · obtain ⟨v, rfl, _⟩ := h
    rfl
  · obtain ⟨v, rfl, hv, q⟩ := h
    refine ⟨_, (pss_one (ps_ret (pe_and (pe_call (ok_is_name T) hr (by rfl) T.g_is_name T.F_is_name.kp T.B_is_name .nil pass0 (pa_cons (pv 0) pa_nil)) (pe_one (pe_cmpR op_ne (pv 0) pe_str (nomark _)))))), ?_⟩
    walk_at "rd"
    cases hv with
    | str s h1 h2 =>
      refine ifB (b := nm s) (fun c => ?_) (fun c => ?_)
      · walk_at "rd"
        show Q (.bl (!decide (V.str s = V.str (Str.ofString "root")))) H
        rw [show (!decide (V.str s = V.str (Str.ofString "root"))) = userV (.str s) from by
          show _ = (nm s && decide (s ≠ Str.ofString "root"))
          rw [c, Bool.true_and]
          by_cases h : s = Str.ofString "root" <;> simp [h]]
        exact q
      · rw [show userV (.str s) = false from by
          show (nm s && decide (s ≠ Str.ofString "root")) = false
          rw [c]
          rfl] at q
        exact q
    | non =>
      refine ifF rfl ?_
      exact q
    | int =>
      refine ifF rfl ?_
      exact q
    | lst e =>
      refine ifF rfl ?_
      exact q
theorem path_sq (T : Txt K mg A) (H : Hp) : SqT K H A.K_PATH_AIMS (paths.map V.str) := .inr T.tu_PATH_AIMS
theorem user_sq (T : Txt K mg A) (H : Hp) : SqT K H A.K_USER_AIMS (users.map V.str) := .inr T.tu_USER_AIMS
def spAim (K : PySem.W.Frag) : Sp := fun vs H Q _ => ∃ v, vs = [v] ∧ ((∃ t xs, v = .ref t ∧ H t = some (.tup xs) ∧ (∀ x ∈ xs, Leaf H x) ∧ xs.length ≤ 100 ∧ ∀ H', Keep [] H H' → Q (.bl (fits xs)) H') ∨ ((∃ ty, TyX K H v (.type ty) ∧ kitB ty "tuple" = some false) ∧ Q (.bl false) H))
theorem fits_not {xs : List V} (h : ¬ (xs.length = 2 ∨ xs.length = 3)) : fits xs = false := by
  match xs, h with
  | [], _ => rfl
  | [_], _ => rfl
  | [_, _], h => exact absurd (.inl rfl) h
  | [_, _, _], h => exact absurd (.inr rfl) h
  | _ :: _ :: _ :: _ :: _, _ => rfl
theorem ok_is_aim (T : Txt K mg A) : FnOk P w K mg base CX0 3 A.f_is_aim A.d_is_aim ["value"] (spAim K) := by
  refine T.F_is_aim.ok sc_is_aim (fun vs H Q E h => ?_) (fun cdv A_ outer s_ H vs Q E hr h => ?_)
  · obtain ⟨v, rfl, _⟩ := h
    rfl
  · obtain ⟨v, rfl, h⟩ := h
    have W : Ow H [] H [] := Ow.start0
    refine ⟨_, (pss_cons (ps_if (PW.pt (pw_or (pt_not (pt_val (pe_callB call_isi (by rfl) T.b_isinstance (by decide +kernel) (pa_cons (pv 0) (pa_cons (pe_bltn (v := .ty "tuple") rfl T.b_tuple (by decide +kernel) rfl) pa_nil))))) (pw_or1 (pt_cmpR op_notIn_seq (pe_callB call_len_seq (by rfl) T.b_len PySem.boot_len (pa_cons (pv 0) pa_nil)) (pe_tupN (pa_cons pe_int (pa_cons pe_int pa_nil))) rfl)))) (pss_one (ps_ret pe_bl)) pss_nil)
  (pss_cons (ps_par (i := 1) (j := 2) (by rfl) sc_is_aim.nd rfl rfl (by decide) rfl rfl (pa_cons (pe_ix ix_tup (pv 0) pe_int (fun _ _ => rfl)) (pa_cons (pe_ix ix_tup (pv 0) (pe_un un_neg pe_int) (fun _ _ => rfl)) pa_nil)) (by rfl))
  (pss_cons (ps_if (pt_not (pt_val (pe_call (ok_is_path T) (hr.mono (by decide)) (by rfl) T.g_is_path T.F_is_path.kp T.B_is_path .nil pass0 (pa_cons (pv 2) pa_nil)))) (pss_one (ps_ret pe_bl)) pss_nil)
  (pss_cons (ps_if (pt_cmpR op_eq (pe_callB call_len_seq (by rfl) T.b_len PySem.boot_len (pa_cons (pv 0) pa_nil)) pe_int (nomark _)) (pss_one (ps_ret (pe_cmpR (op_inTD (u65 hr)) (pv 1) (pe_gc rfl T.c_PATH_AIMS) rfl))) pss_nil)
  (pss_one (ps_ret (pe_and (pe_cmpR (op_inTD (u65 hr)) (pv 1) (pe_gc rfl T.c_USER_AIMS) rfl) (pe_one (pe_call (ok_is_user_name T) hr (by rfl) T.g_is_user_name T.F_is_user_name.kp T.B_is_user_name .nil pass0 (pa_cons (pe_ix ix_tup (pv 0) pe_int (fun _ _ => rfl)) pa_nil)))))))))), ?_⟩
    rcases h with ⟨t, xs, rfl, ht, hx, hl, q⟩ | ⟨⟨ty, hty, kt⟩, q⟩
    · walk_at "rd"
      refine ⟨t, xs, rfl, .inr (.inl (.inl ht)), ?_⟩
      walk_at "rd"
      rename_i p1 H1 np1 kp1 hp1 W1
      have ht1 : H1 t = some (.tup xs) := kp1 _ _ ht (by simp)
      refine ⟨p1, [.int 2, .int 3], rfl, .inr (.inl (.inl hp1)), rfl, rfl, ?_⟩
      refine ⟨_, rfl, ?_⟩
      rw [if_pos rfl]
      by_cases h23 : xs.length = 2 ∨ xs.length = 3
      · refine ifF ?_ ?_
        · rcases h23 with e | e <;> rw [e] <;> rfl
        have sh : (∃ a p, xs = [a, p]) ∨ ∃ a u p, xs = [a, u, p] := by
          match xs, h23 with
          | [a, b], _ => exact .inl ⟨a, b, rfl⟩
          | [a, b, c], _ => exact .inr ⟨a, b, c, rfl⟩
          | [], h => simp at h
          | [_], h => simp at h
          | _ :: _ :: _ :: _ :: _, h => simp at h
        walk_at "rd"
        rcases sh with ⟨x0, xl, rfl⟩ | ⟨x0, xu, xl, rfl⟩
        · have lx0 : Leaf H1 x0 := (hx x0 (by simp)).keep kp1
          have lxl : Leaf H1 xl := (hx xl (by simp)).keep kp1
          refine ⟨t, _, 0, x0, rfl, rfl, .inl (.inl ht1), rfl, ?_⟩
          refine ⟨_, rfl, _, rfl, t, _, -1, xl, rfl, rfl, .inl (.inl ht1), rfl, ?_⟩
          walk_at "rd"
          intro H2 k2
          have ht2 := k2 _ _ ht1 (by simp)
          refine ⟨_, rfl, ?_⟩
          refine ifNB (b := pthV xl) (fun c => ?_) (fun c => ?_)
          · rw [show fits [x0, xl] = false by rw [fits2, c]; rfl] at q
            exact q H2 (Keep.trans kp1 k2)
          rw [show fits [x0, xl] = inA paths x0 by rw [fits2, c]; rfl] at q
          walk_at "rd"
          refine ⟨t, _, rfl, .inr (.inl (.inl ht2)), ?_⟩
          walk_at "rd"
          obtain ⟨d, dp, sd, ds⟩ := (lx0.keep k2).dp (K := K)
          refine ⟨A.K_PATH_AIMS, d, paths.map PyData.str, rfl, dp, .tup (path_sq T H2) (dpAll_strs paths), sd, by decide +kernel, ?_⟩
          rw [ds]
          exact q H2 (Keep.trans kp1 k2)
        · have lx0 : Leaf H1 x0 := (hx x0 (by simp)).keep kp1
          have lxl : Leaf H1 xl := (hx xl (by simp)).keep kp1
          have lxu : Leaf H1 xu := (hx xu (by simp)).keep kp1
          refine ⟨t, _, 0, x0, rfl, rfl, .inl (.inl ht1), rfl, ?_⟩
          refine ⟨_, rfl, _, rfl, t, _, -1, xl, rfl, rfl, .inl (.inl ht1), rfl, ?_⟩
          walk_at "rd"
          intro H2 k2
          have ht2 := k2 _ _ ht1 (by simp)
          refine ⟨_, rfl, ?_⟩
          refine ifNB (b := pthV xl) (fun c => ?_) (fun c => ?_)
          · rw [show fits [x0, xu, xl] = false by rw [fits3, c]; rfl] at q
            exact q H2 (Keep.trans kp1 k2)
          rw [show fits [x0, xu, xl] = (inA users x0 && userV xu) by rw [fits3, c]; rfl] at q
          walk_at "rd"
          refine ⟨t, _, rfl, .inr (.inl (.inl ht2)), ?_⟩
          walk_at "rd"
          obtain ⟨d, dp, sd, ds⟩ := (lx0.keep k2).dp (K := K)
          refine ⟨A.K_USER_AIMS, d, users.map PyData.str, rfl, dp, .tup (user_sq T H2) (dpAll_strs users), sd, by decide +kernel, ?_⟩
          rw [ds]
          refine ⟨_, rfl, ?_⟩
          have lxu2 : Leaf H2 xu := lxu.keep k2
          refine ifB (b := inA users x0) (fun c2 => ?_) (fun c2 => ?_)
          · rw [c2, Bool.true_and] at q
            refine ⟨_, rfl, t, _, 1, xu, rfl, rfl, .inl (.inl ht2), rfl, ?_⟩
            exact ⟨xu, rfl, lxu2, q H2 (Keep.trans kp1 k2)⟩
          · rw [c2, Bool.false_and] at q
            exact q H2 (Keep.trans kp1 k2)
      · refine ifT ?_ ?_
        · have e2 : (xs.length : Int) ≠ 2 := fun e => h23 (.inl (by omega))
          have e3 : (xs.length : Int) ≠ 3 := fun e => h23 (.inr (by omega))
          show (!([V.int 2, V.int 3].any fun y => eqV y (V.int xs.length))) = true
          simp [eqV, Ne.symm e2, Ne.symm e3]
        rw [fits_not h23] at q
        exact q H1 kp1
    · walk_at "rd"
      refine ⟨_, _, _, _, _, rfl, .ty _, hty, kit_ty kt, ?_⟩
      walk_at "rd"
      exact q
end
end X
end K86
namespace K86
namespace X
open PySem PySem.Spec PyProof.Rows L2 FR TL
open C8 (pss_cut pe_gc)
open StX (pe_callS2 pa_star)
/-- the way out: an exception of the class at C that holds v -/
def Out (C : Addr) (v : V) (E : XK) (H : Hp) : Prop := ∀ (d : Addr) (H' : Hp), Keep [] H H' → H' d = some (.xd [(("value" : Str), v)]) → E (.ref C) (some d) H'
theorem Out.mono {C : Addr} {v : V} {E : XK} {H H' : Hp} (h : Out C v E H) (k : Keep [] H H') : Out C v E H' := fun d H2 k2 e => h d H2 (k.trans k2) e
def wds (s : Str) : List Str := Txt.split s ⟨#[32]⟩
def bad (s : Str) : Prop := 10 ∈ tl s ∨ Str.ofString "" ∈ wds s
instance (s : Str) : Decidable (bad s) := by unfold bad; infer_instance
theorem spc : Str.ofString " " = ⟨#[32]⟩ := by decide +kernel
section
variable {P : Program} {w : World} {K : PySem.W.Frag} {mg : Str → Option Value} {base : Heap} {A : Ads}
set_option pp.maxSteps 120
def spSplit (K : PySem.W.Frag) : Sp := fun vs H Q _ => ∃ v, vs = [v, .str (Str.ofString " ")] ∧ ((∃ s, v = .str s ∧ s.length ≤ 1000 ∧ Asc s ∧ (bad s → ∀ H', Keep [] H H' → Q .non H') ∧ (¬ bad s → ∀ p H', H p = none → Keep [] H H' → H' p = some (.lst ((wds s).map V.str)) → Q (.ref p) H')) ∨ ((∃ ty, TyX K H v (.type ty) ∧ kitB ty "str" = some false) ∧ Q .non H))
theorem ok_split_words (T : Txt K mg A) : FnOk P w K mg base CX0 1 A.f_split_words A.d_split_words ["text", "separator"] (spSplit K) := by
  refine T.F_split_words.ok sc_split_words (fun vs H Q E h => ?_) (fun cdv A_ outer s_ H vs Q E hr h => ?_)
  · obtain ⟨v, rfl, _⟩ := h
    rfl
  · obtain ⟨v, rfl, q⟩ := h
    have W : Ow H [] H [] := Ow.start0
    refine ⟨_, (pss_cons (ps_if (PW.pt (pw_or (pt_not (pt_val (pe_callB call_isi (by rfl) T.b_isinstance (by decide +kernel) (pa_cons (pv 0) (pa_cons (pe_bltn (v := .ty "str") rfl T.b_str (by decide +kernel) rfl) pa_nil))))) (pw_or1 (pt_cmpR op_in_sign pe_str (pv 0) rfl)))) (pss_one (ps_ret pe_non)) pss_nil)
  (pss_cons (ps_set (i := 2) sc_split_words.nd rfl (.inl rfl) (pe_m1 PySem.F.slot_str_split PySem.F.type_str_split mt_splN (pv 0) (pv 1)))
  (pss_one (ps_ret (pe_ifExp (pt_cmpR op_in_seq pe_str (pv 2) rfl) pe_non (pv 2)))))), ?_⟩
    rcases q with ⟨s, rfl, hl, ha, qb, qg⟩ | ⟨⟨t, ty, kt⟩, q⟩
    · have hz : s.length ≤ sizeLine := size_le (by omega)
      have hlen := len_tl s
      walk_at "rd"
      refine ifQ (p := 10 ∈ tl s) rfl (fun c2 => ?_) (fun c2 => ?_)
      · walk_at "rd"
        exact qb (.inl c2) H Keep.refl
      walk_at "rd"
      rename_i p H1 np kp hp W1
      refine ⟨flat_strs _, ?_⟩
      refine ⟨_, rfl, ?_⟩
      rw [spc] at hp
      refine ifQ (p := Str.ofString "" ∈ Txt.split s (Str.ofString " ")) (in_strs _ _) (fun c1 => ?_) (fun c1 => ?_)
      · walk_at "rd"
        rw [spc] at c1
        exact qb (.inr c1) H1 W1.keep
      · walk_at "rd"
        rw [spc] at c1
        exact qg (fun z => z.elim c2 c1) p H1 np W1.keep hp
    · walk_at "rd"
      refine ⟨_, _, _, _, _, rfl, .ty _, ty, kit_ty kt, ?_⟩
      walk_at "rd"
      exact q
theorem bd1 (T : Txt K mg A) : ∃ ds, Vals [.str (Str.ofString " ")] ds ∧ Binds K A.d_split_words ["text", "separator"] ds :=
  T.F_split_words.binds0 1 (by simp) rfl fun D doc pm an cdv ct us its h1 h2 => match us, its, h1, h2 with
    | [_], [_], _, _ => ⟨_, _, _, _, _, _, rfl, rfl, rfl⟩
end
end X
end K86
namespace K86
namespace X
open PySem PySem.Spec PyProof.Rows L2 FR TL
open C8 (pss_cut pe_gc)
open StX (pe_callS2 pa_star)
section
variable {P : Program} {w : World} {K : PySem.W.Frag} {mg : Str → Option Value} {base : Heap} {A : Ads}
set_option pp.maxSteps 120
theorem filt_asc {p : Nat → Bool} {s : Str} (a : Asc s) : ∀ c ∈ (tl s).filter p, c < 128 := fun c hc => a c (List.mem_filter.mp hc).1
theorem sgn_lt (c d : Nat) : decide ((⟨#[c]⟩ : Str).cps.toList < (⟨#[d]⟩ : Str).cps.toList) = decide (c < d) := by
  refine decide_eq_decide.mpr ?_
  show [c] < [d] ↔ c < d
  rw [List.cons_lt_cons_iff]
  simp
theorem lt_a (d : Nat) : decide ((⟨#[d]⟩ : Str).cps.toList < (Str.ofString "a").cps.toList) = decide (d < 97) := by
  rw [show Str.ofString "a" = ⟨#[97]⟩ by decide +kernel]
  exact sgn_lt d 97
theorem gt_z (d : Nat) : decide ((Str.ofString "z").cps.toList < (⟨#[d]⟩ : Str).cps.toList) = decide (122 < d) := by
  rw [show Str.ofString "z" = ⟨#[122]⟩ by decide +kernel]
  exact sgn_lt 122 d
def spLf (f : V → Bool) : Sp := fun vs H Q _ => ∃ v, vs = [v] ∧ Leaf H v ∧ ∀ H', Keep [] H H' → Q (.bl (f v)) H'
theorem ok_l_is_name (T : Txt K mg A) : FnOk P w K mg base CX0 1 A.f_l_is_name A.d_l_is_name ["_law_thing"] (spLf nmV) := by
  refine T.F_l_is_name.ok sc_l_is_name (fun vs H Q E h => ?_) (fun cdv A_ outer s_ H vs Q E hr h => ?_)
  · obtain ⟨v, rfl, _⟩ := h
    rfl
  · obtain ⟨v, rfl, hv, q⟩ := h
    have W : Ow H [] H [] := Ow.start0
    refine ⟨_, (pss_cons (ps_if (PW.pt (pw_or (pt_not (pt_val (pe_callB call_isi (by rfl) T.b_isinstance (by decide +kernel) (pa_cons (pv 0) (pa_cons (pe_bltn (v := .ty "str") rfl T.b_str (by decide +kernel) rfl) pa_nil))))) (pw_or1 (pt_not (pt_chain op_le op_le pe_int (pe_callB call_len_str (by rfl) T.b_len PySem.boot_len (pa_cons (pv 0) pa_nil)) pe_int))))) (pss_one (ps_ret pe_bl)) pss_nil)
  (pss_one (ps_ret (pe_cmpR (op_eqD hr.units) (pe_lc (own := [("_law_sign", 1)]) (g := gName 1) rfl sc_l_is_name.nd (pi_str (pv 0)) (blkOk_by (own := [("_law_sign", 1)]) (N := N_l_is_name) (sc := defScope s_l_is_name) (by decide +kernel)) (fun _ _ _ _ _ => pg_name (i := 1) sc_l_is_name.nd rfl (Or.inl rfl)) (fun _ _ _ _ _ => (pts_one (PW.pt (pw_or (pt_cmpR op_lt_str (pv 1) pe_str (nomark _)) (pw_or1 (pt_cmpR op_gt_str (pv 1) pe_str (nomark _))))))) (fun _ _ _ _ _ => (pv 1))) (pe_lstS pa_nil) (nomark _))))), ?_⟩
    cases hv with
    | str s hl ha =>
      have hz : s.length ≤ sizeLine := size_le (by omega)
      have hlen := len_tl s
      have q : ∀ H', Keep [] H H' → Q (.bl (nm s)) H' := q
      walk_at "rd"
      refine ite2 (fun c1 => ?_) (fun c1 => ?_)
      rotate_left
      · walk_at "rd"
        have hn : nm s = false := by
          unfold nm
          rw [decide_eq_false (fun h => c1 (decide_eq_true (by have e : s.length ≠ 0 := fun e => h.1 ((empty_iff s).mpr (List.length_eq_zero_iff.mp (hlen ▸ e))); omega)))]
          rfl
        have q' := q H Keep.refl
        rw [hn] at q'
        exact q'
      have c1' : 1 ≤ s.length := by have := of_decide_eq_true c1; omega
      have c : s ≠ Str.ofString "" := fun e => by rw [hlen, (empty_iff s).mp e] at c1'; exact absurd c1' (by decide)
      walk_at "rd"
      refine ifNB (b := decide ((s.length : Int) ≤ 8)) (fun c8 => ?_) (fun c8 => ?_)
      · have c8' := of_decide_eq_false c8
        walk_at "rd"
        have q' := q H Keep.refl
        rw [show nm s = false by unfold nm; rw [decide_eq_false (fun h => by have := h.2; omega)]; rfl] at q'
        exact q'
      have c8' := of_decide_eq_true c8
      walk_at "rd"
      intro D hD
      refine lc_str (s := s) (fun pre H' => Ow H [] H' [(D, .lst ((sg (pre.filter (fun d => !lc d))).map V.str))]) (W.new hD) ?_ ?_
      · rintro pre d post H8 e8 W8
        have hpre : (pre.filter (fun d => !lc d)).length ≤ 400 := by
          have h1 := List.length_filter_le (fun d => !lc d) pre
          have h2 : pre.length ≤ (tl s).length := by rw [e8, List.length_append]; omega
          omega
        have hin : lc d = false → (pre ++ [d]).filter (fun d => !lc d) = pre.filter (fun d => !lc d) ++ [d] := fun h => by
          rw [List.filter_append, List.filter_cons, if_pos (by rw [h]; rfl)]; rfl
        walk_at "rd"
        refine ifQ (p := d < 97) (lt_a d) (fun c9 => ?_) (fun c9 => ?_)
        · walk_at "rd"
          refine ⟨_, W8.get 0 rfl, size_ok (by rw [List.length_map, sg_len]; omega), ?_⟩
          rw [hin (decide_eq_false (fun h => by have := h.1; have c9' : d < 97 := c9; omega)), sg_app]
          exact W8.set 0 rfl
        walk_at "rd"
        refine ifQ (p := 122 < d) (gt_z d) (fun c10 => ?_) (fun c10 => ?_)
        · walk_at "rd"
          refine ⟨_, W8.get 0 rfl, size_ok (by rw [List.length_map, sg_len]; omega), ?_⟩
          rw [hin (decide_eq_false (fun h => by have := h.2; have c10' : 122 < d := c10; omega)), sg_app]
          exact W8.set 0 rfl
        · have c9' : ¬ d < 97 := c9
          have c10' : ¬ 122 < d := c10
          rw [show (pre ++ [d]).filter (fun d => !lc d) = pre.filter (fun d => !lc d) by rw [List.filter_append, List.filter_cons, if_neg (by rw [show lc d = true from decide_eq_true ⟨by omega, by omega⟩]; decide)]; simp]
          exact W8
      · intro H9 W9
        have hfa := filt_asc (p := fun d => !lc d) ha
        have hn : nm s = decide (sg ((tl s).filter (fun d => !lc d)) = []) := by
          unfold nm
          rw [decide_eq_true ⟨c, by omega⟩, Bool.true_and, Bool.eq_iff_iff, decide_eq_true_eq, List.all_eq_true]
          unfold sg
          rw [List.map_eq_nil_iff, List.filter_eq_nil_iff]
          simp
        walk_at "rd"
        rename_i p H10 np10 sp10 kp10 hp10 W10
        refine ⟨dStrs (sg ((tl s).filter (fun d => !lc d))), dStrs [], dp_strs (W10.sq 1 rfl), dp_strs (ws := []) (W10.sq 0 rfl), shaped_strs (sg_asc hfa), shaped_strs (by simp), ?_⟩
        rw [eqv_nil, ← hn]
        exact q H10 W10.keep
    | non =>
      walk_at "rd"
      exact q H Keep.refl
    | int =>
      walk_at "rd"
      exact q H Keep.refl
    | lst e =>
      walk_at "rd"
      exact q H Keep.refl
theorem ok_l_is_path (T : Txt K mg A) : FnOk P w K mg base CX0 2 A.f_l_is_path A.d_l_is_path ["_law_thing"] (spLf pthV) := by
  refine T.F_l_is_path.ok sc_l_is_path (fun vs H Q E h => ?_) (fun cdv A_ outer s_ H vs Q E hr h => ?_)
  · obtain ⟨v, rfl, _⟩ := h
    rfl
  · obtain ⟨v, rfl, hv, q⟩ := h
    have W : Ow H [] H [] := Ow.start0
    refine ⟨_, (pss_cons (ps_if (PW.pt (pw_or (pt_not (pt_val (pe_callB call_isi (by rfl) T.b_isinstance (by decide +kernel) (pa_cons (pv 0) (pa_cons (pe_bltn (v := .ty "str") rfl T.b_str (by decide +kernel) rfl) pa_nil))))) (pw_or1 (pt_cmpR op_ne (pe_slice sl_str (pv 0) po_none (po_some pe_int)) pe_str (nomark _))))) (pss_one (ps_ret pe_bl)) pss_nil)
  (pss_one (ps_ret (pe_or (pe_cmpR op_eq (pv 0) pe_str (nomark _)) (pe_one (pe_cmpR (op_eqD hr.units) (pe_lc (own := [("_law_name_here", 1)]) (g := gName 1) rfl sc_l_is_path.nd (pi_list (pe_m1 PySem.F.slot_str_split PySem.F.type_str_split mt_splN (pe_slice sl_str (pv 0) (po_some pe_int) po_none) pe_str)) (blkOk_by (own := [("_law_name_here", 1)]) (N := N_l_is_path) (sc := defScope s_l_is_path) (by decide +kernel)) (fun _ _ _ _ _ => pg_name (i := 1) sc_l_is_path.nd rfl (Or.inl rfl)) (fun _ _ _ _ _ => (pts_one (pt_not (pt_val (pe_call (ok_l_is_name T) hr (by rfl) T.g_l_is_name T.F_l_is_name.kp T.B_l_is_name .nil pass0 (pa_cons (pv 1) pa_nil)))))) (fun _ _ _ _ _ => (pv 1))) (pe_lstS pa_nil) (nomark _))))))), ?_⟩
    cases hv with
    | str s hl ha =>
      have hz : s.length ≤ sizeLine := size_le (by omega)
      have q : ∀ H', Keep [] H H' → Q (.bl (pth s)) H' := q
      unfold pth at q
      walk_at "rd"
      refine ifVSn (fun c => ?_) (fun c => ?_)
      · walk_at "rd"
        rw [show Txt.startswith s ⟨#[47]⟩ = false by rw [← Bool.not_eq_true]; exact fun h => c ((hd_eq s).mpr h)] at q
        exact q H Keep.refl
      have c1 := (hd_eq s).mp c
      rw [c1, split_from c1] at q
      have hcl := cutS_len s (some 1) none
      have hca := ha.cut (some 1) none
      walk_at "rd"
      refine ifVS (fun e => ?_) (fun e => ?_)
      · rw [decide_eq_true (e.trans slash)] at q
        exact q H Keep.refl
      rw [decide_eq_false (fun h => e (h.trans slash.symm))] at q
      generalize hrr : cutS s (some 1) none = r at q hcl hca ⊢
      have hpl : ∀ x ∈ Txt.split r ⟨#[47]⟩, x.length ≤ r.length ∧ Asc x := fun x hx => ⟨split_le (by decide) x hx, split_asc (by decide) hca x hx⟩
      have hpn : (Txt.split r ⟨#[47]⟩).length ≤ r.length + 1 := split_len (by decide)
      walk_at "rd"
      rw [hrr, slash]
      refine ⟨size_le (by omega), ?_⟩
      generalize Txt.split r ⟨#[47]⟩ = ps at q hpl hpn ⊢
      walk_at "obj"
      rename_i p3 H3 np3 kp3 hp3 W3
      refine ⟨_, rfl, ⟨_, W3.sq 0 rfl⟩, fun D hD => ?_⟩
      refine lc_li (a := p3) (xs := ps.map V.str) (fun pre H' => ∃ vs : List Str, pre = vs.map V.str ∧ Ow H [] H' [(D, .lst ((vs.filter (fun z => !nm z)).map V.str)), (p3, .lst (ps.map V.str))]) ⟨[], rfl, W3.new hD⟩ ?_ ?_ ?_
      · rintro pre post H5 e ⟨vs, _, W5⟩
        exact W5.sq 1 rfl
      · rintro pre x post H5 e ⟨vs, rfl, W5⟩
        obtain ⟨v, hv, rfl⟩ := List.mem_map.mp (show x ∈ ps.map V.str by rw [e]; simp)
        have hwl : vs.length ≤ ps.length := by
          have := congrArg List.length e
          rw [List.length_append, List.length_map, List.length_map] at this
          omega
        have hfl := List.length_filter_le (fun z => !nm z) vs
        walk_at "rd"
        refine ⟨.str v (by have := (hpl v hv).1; omega) (hpl v hv).2, fun H6 k6 => ?_⟩
        have W6 := W5.call0 k6
        walk_at "rd"
        refine ifNB (b := nm v) (fun c5 => ?_) (fun c5 => ?_)
        · walk_at "rd"
          refine ⟨_, W6.get 0 rfl, size_ok (by rw [List.length_map]; omega), vs ++ [v], by rw [List.map_append]; rfl, ?_⟩
          rw [List.filter_append, List.filter_cons, if_pos (by rw [c5]; rfl), List.map_append]
          exact W6.set 0 rfl
        · refine ⟨vs ++ [v], by rw [List.map_append]; rfl, ?_⟩
          rw [List.filter_append, List.filter_cons, if_neg (by rw [c5]; decide), List.filter_nil, List.append_nil]
          exact W6
      · rintro H5 ⟨vs, e, W5⟩
        have e' : ps = vs := by
          have : ps.map V.str = vs.map V.str := e
          exact (List.map_inj_right (fun a b h => V.str.inj h)).mp this
        subst e'
        have hn : ps.all nm = decide (ps.filter (fun z => !nm z) = []) := by
          rw [Bool.eq_iff_iff, decide_eq_true_eq, List.all_eq_true, List.filter_eq_nil_iff]
          simp
        rw [hn] at q
        walk_at "rd"
        rename_i p6 H6 np6 sp6 kp6 hp6 W6
        refine ⟨dStrs (ps.filter (fun z => !nm z)), dStrs [], dp_strs (W6.sq 1 rfl), dp_strs (ws := []) (W6.sq 0 rfl), shaped_strs (fun z hz => (hpl z (List.mem_filter.mp hz).1).2), shaped_strs (by simp), ?_⟩
        rw [eqv_nil]
        exact q H6 W6.keep
    | non =>
      walk_at "rd"
      exact q H Keep.refl
    | int =>
      walk_at "rd"
      exact q H Keep.refl
    | lst e =>
      walk_at "rd"
      exact q H Keep.refl
theorem dp_lits {H : Hp} {p : Addr} (ws : List Str) (h : SqL K H p (ws.map V.str)) (ha : ws.all (fun s => (tl s).all fun c => decide (c < 128)) = true) : Dp K H (.ref p) (dStrs ws) ∧ SeqAt.shaped (dStrs ws) = true :=
  ⟨dp_strs h, shaped_strs fun s hs => Asc.of (List.all_eq_true.mp ha s hs)⟩
theorem leaf_kind {H : Hp} {v : V} (h : Leaf H v) : (∃ s, v = .str s) ∨ ((∃ ty, TyX K H v (.type ty) ∧ kitB ty "str" = some false) ∧ ∀ s, v ≠ .str s) := by
  cases h with
  | str s _ _ => exact .inl ⟨s, rfl⟩
  | non => exact .inr ⟨⟨_, .base .non, ki_non_str⟩, fun s e => by cases e⟩
  | int => exact .inr ⟨⟨_, .base (.int _), ki_int_str⟩, fun s e => by cases e⟩
  | lst e => exact .inr ⟨⟨_, .base (.lst e), ki_lst_str⟩, fun s e => by cases e⟩
theorem fits_no {x0 : V} {r : List V} (hn : ∀ s, x0 ≠ .str s) : fits (x0 :: r) = false := by
  have na : ∀ ws, inA ws x0 = false := fun ws => by cases x0 <;> first | rfl | exact absurd rfl (hn _)
  match r with
  | [] => rfl
  | [p] => rw [fits2, na, Bool.and_false]
  | [u, p] => rw [fits3, na, Bool.false_and, Bool.and_false]
  | _ :: _ :: _ :: _ => rfl
theorem ok_fits (T : Txt K mg A) : FnOk P w K mg base CX0 3 A.f_fits A.d_fits ["_law_thing"] (spAim K) := by
  refine T.F_fits.ok sc_fits (fun vs H Q E h => ?_) (fun cdv A_ outer s_ H vs Q E hr h => ?_)
  · obtain ⟨v, rfl, _⟩ := h
    rfl
  · obtain ⟨v, rfl, h⟩ := h
    have W : Ow H [] H [] := Ow.start0
    refine ⟨_, (pss_cons (ps_if (PW.pt (pw_or (pt_not (pt_val (pe_callB call_isi (by rfl) T.b_isinstance (by decide +kernel) (pa_cons (pv 0) (pa_cons (pe_bltn (v := .ty "tuple") rfl T.b_tuple (by decide +kernel) rfl) pa_nil))))) (pw_or (pt_cmpR op_notIn_seq (pe_callB call_len_seq (by rfl) T.b_len PySem.boot_len (pa_cons (pv 0) pa_nil)) (pe_lstS (pa_cons pe_int (pa_cons pe_int pa_nil))) rfl) (pw_or1 (pt_not (pt_val (pe_callB call_isi (by rfl) T.b_isinstance (by decide +kernel) (pa_cons (pe_ix ix_tup (pv 0) pe_int (fun _ _ => rfl)) (pa_cons (pe_bltn (v := .ty "str") rfl T.b_str (by decide +kernel) rfl) pa_nil))))))))) (pss_one (ps_ret pe_bl)) pss_nil)
  (pss_cons (ps_if (pt_not (pt_val (pe_call (ok_l_is_path T) hr (by rfl) T.g_l_is_path T.F_l_is_path.kp T.B_l_is_path .nil pass0 (pa_cons (pe_ix ix_tup (pv 0) (pe_un un_neg pe_int) (fun _ _ => rfl)) pa_nil)))) (pss_one (ps_ret pe_bl)) pss_nil)
  (pss_cons (ps_if (pt_cmpR op_eq (pe_callB call_len_seq (by rfl) T.b_len PySem.boot_len (pa_cons (pv 0) pa_nil)) pe_int (nomark _)) (pss_one (ps_ret (pe_cmpR (op_inD (u65 hr)) (pe_ix ix_tup (pv 0) pe_int (fun _ _ => rfl)) (pe_lstS (pa_cons pe_str (pa_cons pe_str (pa_cons pe_str (pa_cons pe_str (pa_cons pe_str pa_nil)))))) rfl))) pss_nil)
  (pss_one (ps_ret (pe_and (pe_cmpR (op_inD (u65 hr)) (pe_ix ix_tup (pv 0) pe_int (fun _ _ => rfl)) (pe_lstS (pa_cons pe_str (pa_cons pe_str pa_nil))) rfl) (pe_and (pe_call (ok_l_is_name T) (hr.mono (by decide)) (by rfl) T.g_l_is_name T.F_l_is_name.kp T.B_l_is_name .nil pass0 (pa_cons (pe_ix ix_tup (pv 0) pe_int (fun _ _ => rfl)) pa_nil)) (pe_one (pe_cmpR (op_neD hr.units) (pe_ix ix_tup (pv 0) pe_int (fun _ _ => rfl)) pe_str (nomark _)))))))))), ?_⟩
    rcases h with ⟨t, xs, rfl, ht, hx, hl, q⟩ | ⟨⟨ty, hty, kt⟩, q⟩
    · walk_at "rd"
      refine ⟨t, xs, rfl, .inr (.inl (.inl ht)), ?_⟩
      walk_at "rd"
      rename_i p1 H1 np1 sp1 kp1 hp1 W1
      have ht1 : H1 t = some (.tup xs) := kp1 _ _ ht (by simp)
      refine ⟨rfl, rfl, ?_⟩
      by_cases h23 : xs.length = 2 ∨ xs.length = 3
      · refine ⟨_, rfl, ifF ?_ ?_⟩
        · rcases h23 with e | e <;> rw [e] <;> rfl
        have lx : ∀ x ∈ xs, Leaf H1 x := fun x hx' => (hx x hx').keep kp1
        obtain ⟨x0, r, rfl⟩ : ∃ x0 r, xs = x0 :: r := by
          cases xs with
          | nil => simp at h23
          | cons a r => exact ⟨a, r, rfl⟩
        have lx0 : Leaf H1 x0 := lx x0 (by simp)
        walk_at "rd"
        refine ⟨t, _, 0, x0, rfl, rfl, .inl (.inl ht1), atI_nat (j := 0) rfl, ?_⟩
        walk_at "rd"
        rcases leaf_kind (K := K) lx0 with ⟨s0, rfl⟩ | ⟨⟨ty, hty, kt⟩, hn⟩
        rotate_left
        · refine ⟨_, _, _, _, _, rfl, .ty _, hty, kit_ty kt, ?_⟩
          rw [fits_no hn] at q
          walk_at "rd"
          exact q H1 kp1
        walk_at "rd"
        have sh : (∃ p, r = [p]) ∨ ∃ u p, r = [u, p] := by
          match r, h23 with
          | [a], _ => exact .inl ⟨a, rfl⟩
          | [a, b], _ => exact .inr ⟨a, b, rfl⟩
          | [], h => simp at h
          | _ :: _ :: _ :: _, h => simp at h
        rcases sh with ⟨xl, rfl⟩ | ⟨xu, xl, rfl⟩
        · have lxl : Leaf H1 xl := lx xl (by simp)
          refine ⟨t, _, -1, xl, rfl, rfl, .inl (.inl ht1), rfl, ?_⟩
          refine ⟨xl, rfl, lxl, fun H2 k2 => ?_⟩
          have W2 := W1.call0 k2
          have ht2 := k2 _ _ ht1 (by simp)
          refine ⟨_, rfl, ifNB (b := pthV xl) (fun c => ?_) (fun c => ?_)⟩
          · rw [fits2, c, Bool.false_and] at q
            walk_at "rd"
            exact q H2 (Keep.trans kp1 k2)
          rw [fits2, c, Bool.true_and] at q
          walk_at "rd"
          refine ⟨t, _, rfl, .inr (.inl (.inl ht2)), ?_⟩
          walk_at "rd"
          refine ⟨t, _, 0, .str s0, rfl, rfl, .inl (.inl ht2), atI_nat (j := 0) rfl, ?_⟩
          walk_at "rd"
          rename_i p3 H3 np3 sp3 kp3 hp3 W3
          obtain ⟨d, dp, sd, ds⟩ := ((lx0.keep k2).keep kp3).dp (K := K)
          obtain ⟨l1, l2⟩ := dp_lits (K := K) paths (W3.sq 0 rfl) (by decide +kernel)
          refine ⟨d, paths.map PyData.str, dp, l1, sd, l2, ?_⟩
          rw [ds]
          exact q H3 W3.keep
        · have lxl : Leaf H1 xl := lx xl (by simp)
          have lxu : Leaf H1 xu := lx xu (by simp)
          refine ⟨t, _, -1, xl, rfl, rfl, .inl (.inl ht1), rfl, ?_⟩
          refine ⟨xl, rfl, lxl, fun H2 k2 => ?_⟩
          have W2 := W1.call0 k2
          have ht2 := k2 _ _ ht1 (by simp)
          refine ⟨_, rfl, ifNB (b := pthV xl) (fun c => ?_) (fun c => ?_)⟩
          · rw [fits3, c, Bool.false_and] at q
            walk_at "rd"
            exact q H2 (Keep.trans kp1 k2)
          rw [fits3, c, Bool.true_and] at q
          walk_at "rd"
          refine ⟨t, _, rfl, .inr (.inl (.inl ht2)), ?_⟩
          walk_at "rd"
          refine ⟨t, _, 0, .str s0, rfl, rfl, .inl (.inl ht2), atI_nat (j := 0) rfl, ?_⟩
          walk_at "rd"
          rename_i p3 H3 np3 sp3 kp3 hp3 W3
          obtain ⟨d, dp, sd, ds⟩ := ((lx0.keep k2).keep kp3).dp (K := K)
          obtain ⟨l1, l2⟩ := dp_lits (K := K) users (W3.sq 0 rfl) (by decide +kernel)
          refine ⟨d, users.map PyData.str, dp, l1, sd, l2, ?_⟩
          rw [ds]
          refine ⟨_, rfl, ifB (b := inA users (.str s0)) (fun c2 => ?_) (fun c2 => ?_)⟩
          · rw [c2, Bool.true_and] at q
            have ht3 := kp3 _ _ ht2 (by simp)
            walk_at "rd"
            refine ⟨t, _, 1, xu, rfl, rfl, .inl (.inl ht3), atI_nat (j := 1) rfl, ?_⟩
            refine ⟨xu, rfl, (lxu.keep k2).keep kp3, fun H4 k4 => ?_⟩
            have ht4 := k4 _ _ ht3 (by simp)
            have k04 : Keep [] H H4 := Keep.trans W3.keep k4
            have un : userV xu = (nmV xu && match xu with | .str u => decide (u ≠ Str.ofString "root") | _ => false) := by
              cases xu <;> rfl
            refine ⟨_, rfl, ifB (b := nmV xu) (fun c4 => ?_) (fun c4 => ?_)⟩
            · walk_at "rd"
              refine ⟨t, _, 1, xu, rfl, rfl, .inl (.inl ht4), atI_nat (j := 1) rfl, ?_⟩
              walk_at "rd"
              cases lxu with
              | str u hu1 hu2 =>
                refine ⟨.str u, .str (Str.ofString "root"), .str u, .str _, ?_, by decide +kernel, ?_⟩
                · unfold SeqAt.shaped
                  rw [Bool.and_eq_true]
                  exact ⟨str_ok hu2, decide_eq_true (by unfold PyData.depth; decide)⟩
                rw [un, c4, Bool.true_and] at q
                have e : (!PyData.eqv (.str u) (.str (Str.ofString "root"))) = decide (u ≠ Str.ofString "root") := by
                  by_cases h : u = Str.ofString "root" <;> simp [PyData.eqv, h]
                rw [e]
                exact q H4 k04
              | non => cases c4
              | int => cases c4
              | lst e => cases c4
            · rw [un, c4, Bool.false_and] at q
              exact q H4 k04
          · rw [c2, Bool.false_and] at q
            exact q H3 W3.keep
      · refine ⟨_, rfl, ifT ?_ ?_⟩
        · have e2 : (xs.length : Int) ≠ 2 := fun e => h23 (.inl (by omega))
          have e3 : (xs.length : Int) ≠ 3 := fun e => h23 (.inr (by omega))
          show (!([V.int 2, V.int 3].any fun y => eqV y (V.int xs.length))) = true
          simp [eqV, Ne.symm e2, Ne.symm e3]
        rw [fits_not h23] at q
        walk_at "rd"
        exact q H1 kp1
    · walk_at "rd"
      refine ⟨_, _, _, _, _, rfl, .ty _, hty, kit_ty kt, ?_⟩
      walk_at "rd"
      exact q
end
end X
end K86
namespace K86
namespace X
open PySem PySem.Spec PyProof.Rows L2 FR TL
open C8 (pss_cut pe_gc)
open StX (pe_callS2 pa_star)
/-! ### what the words of a goal are made of -/
def clean (s : Str) : Prop := s ≠ Str.ofString "" ∧ 10 ∉ tl s
theorem clean_nm {s : Str} (h : nm s = true) : clean s := by
  unfold nm at h
  rw [Bool.and_eq_true, decide_eq_true_eq, List.all_eq_true] at h
  exact ⟨h.1.1, fun hc => absurd (h.2 10 hc) (by decide)⟩
theorem clean_in {ws : List Str} {s : Str} (h : inA ws (.str s) = true) (hw : ∀ w ∈ ws, clean w) : clean s := hw s (of_decide_eq_true h)
instance (s : Str) : Decidable (clean s) := by unfold clean; infer_instance
theorem clean_paths : ∀ w ∈ paths, clean w := by decide +kernel
theorem clean_users : ∀ w ∈ users, clean w := by decide +kernel
theorem clean_pth {s : Str} (h : pth s = true) : clean s := by
  unfold pth at h
  rw [Bool.and_eq_true, Bool.or_eq_true, decide_eq_true_eq] at h
  obtain ⟨h1, h2⟩ := h
  refine ⟨fun e => by rw [e] at h1; exact absurd h1 (by decide +kernel), fun hc => ?_⟩
  rcases h2 with h2 | h2
  · rw [h2] at hc
    exact absurd hc (by decide +kernel)
  · have hf := (path_parts h1).1
    have : (10 : Nat) ∈ tl (noSl s) := by
      rw [tl_noSl]
      exact List.mem_filter.mpr ⟨hc, by decide⟩
    rw [← hf] at this
    obtain ⟨l, hl, hm⟩ := List.mem_flatten.mp this
    obtain ⟨u, hu, rfl⟩ := List.mem_map.mp hl
    exact (clean_nm (List.all_eq_true.mp h2 u hu)).2 hm
theorem str_nm {v : V} (h : nmV v = true) : ∃ s, v = .str s ∧ nm s = true := by cases v <;> first | exact ⟨_, rfl, h⟩ | cases h
theorem str_pth {v : V} (h : pthV v = true) : ∃ s, v = .str s ∧ pth s = true := by cases v <;> first | exact ⟨_, rfl, h⟩ | cases h
theorem str_in {ws : List Str} {v : V} (h : inA ws v = true) : ∃ s, v = .str s ∧ inA ws (.str s) = true := by cases v <;> first | exact ⟨_, rfl, h⟩ | cases h
theorem str_user {v : V} (h : userV v = true) : ∃ s, v = .str s ∧ nm s = true := by
  cases v <;> first | exact ⟨_, rfl, ((Bool.and_eq_true _ _).mp h).1⟩ | cases h
/-- a goal is made of texts without line feeds -/
theorem fits_strs {xs : List V} (h : fits xs = true) : ∃ ws : List Str, xs = ws.map V.str ∧ ws.length ≤ 3 ∧ ∀ s ∈ ws, clean s := by
  match xs, h with
  | [a, p], h =>
    rw [fits2, Bool.and_eq_true] at h
    obtain ⟨s, rfl, hs⟩ := str_pth h.1
    obtain ⟨u, rfl, hu⟩ := str_in h.2
    refine ⟨[u, s], rfl, by show 2 ≤ 3; decide, fun z hz => ?_⟩
    simp only [List.mem_cons, List.not_mem_nil, or_false] at hz
    rcases hz with rfl | rfl
    · exact clean_in hu clean_paths
    · exact clean_pth hs
  | [a, u, p], h =>
    rw [fits3, Bool.and_eq_true, Bool.and_eq_true] at h
    obtain ⟨s, rfl, hs⟩ := str_pth h.1
    obtain ⟨z, rfl, hz⟩ := str_in h.2.1
    obtain ⟨y, rfl, hy⟩ := str_user h.2.2
    refine ⟨[z, y, s], rfl, by show 3 ≤ 3; decide, fun x hx => ?_⟩
    simp only [List.mem_cons, List.not_mem_nil, or_false] at hx
    rcases hx with rfl | rfl | rfl
    · exact clean_in hz clean_users
    · exact clean_nm hy
    · exact clean_pth hs
/-- such a text is none that split_words refuses -/
theorem fits_good {s : Str} (h : fits ((wds s).map V.str) = true) : ¬ bad s := by
  obtain ⟨ws, e, _, hw⟩ := fits_strs h
  have e' : wds s = ws := (List.map_inj_right (fun a b h => V.str.inj h)).mp e
  subst e'
  rintro (hb | hb)
  · have h1 : ((wds s).map tl).flatten = (tl s).filter (fun d => d != 32) := by
      unfold wds
      rw [split_tl s (by decide), spl_all]
      rfl
    have : (10 : Nat) ∈ ((wds s).map tl).flatten := by
      rw [h1]
      exact List.mem_filter.mpr ⟨hb, by decide⟩
    obtain ⟨l, hl, hm⟩ := List.mem_flatten.mp this
    obtain ⟨u, hu, rfl⟩ := List.mem_map.mp hl
    exact (hw u hu).2 hm
  · exact (hw _ hb).1 rfl
/-! ### things as data -/
def ld : V → PyData
  | .str s => .str s
  | .non => .none
  | .int i => .int i
  | _ => .list []
structure Shw (d : PyData) (n : Nat) : Prop where
  s : d.showable = true
  h : d.hasDict = false
  dp : d.depth ≤ n
  ls : d.leavesShort 13 = true
  wt : d.weight ≤ 100 * 10 ^ n
theorem _root_.K86.Leaf.ldp {K : PySem.W.Frag} {H : Hp} {v : V} (h : Leaf H v) : Dp K H v (ld v) := by
  cases h with
  | str s h1 h2 => exact .str s
  | non => exact .non
  | int => exact .int 7
  | lst e => exact .lst (.inl (.inl e)) .nil
theorem str_short {s : Str} (h : Asc s) : (PyData.str s).leavesShort 13 = true := by
  show (s.cps.toList.all fun c => decide (c < 16 ^ 8)) = true
  exact List.all_eq_true.mpr fun c hc => decide_eq_true (by have := h c hc; omega)
theorem shw_str {s : Str} {n : Nat} (h1 : s.length ≤ 100 * 10 ^ n) (h2 : Asc s) : Shw (.str s) n := ⟨rfl, rfl, Nat.zero_le n, str_short h2, h1⟩
theorem _root_.K86.Leaf.shw {H : Hp} {v : V} (h : Leaf H v) : Shw (ld v) 1 := by
  cases h with
  | str s h1 h2 => exact ⟨rfl, rfl, Nat.zero_le 1, str_short h2, by show s.length ≤ _; omega⟩
  | non => exact ⟨rfl, rfl, by decide, rfl, by decide⟩
  | int => exact ⟨by decide +kernel, rfl, by decide, by decide +kernel, by decide +kernel⟩
  | lst e =>
    show Shw (.list []) 1
    exact ⟨by decide +kernel, by decide +kernel, by decide +kernel, by decide +kernel, by decide +kernel⟩
theorem shw_all {n : Nat} : ∀ ds : List PyData, (∀ d ∈ ds, Shw d n) → PyData.showableAll ds = true ∧ PyData.hasDictAll ds = false ∧ PyData.depthAll ds ≤ n ∧ PyData.leavesShortAll 13 ds = true ∧ PyData.weightAll ds ≤ ds.length * (100 * 10 ^ n + 1)
  | [], _ => ⟨rfl, rfl, Nat.zero_le _, rfl, Nat.zero_le _⟩
  | d :: r, h => by
    obtain ⟨a, b, c, e, f⟩ := shw_all r fun x hx => h x (List.mem_cons_of_mem _ hx)
    have g := h d List.mem_cons_self
    refine ⟨?_, ?_, ?_, ?_, ?_⟩
    · simp only [PyData.showableAll, g.s, a, Bool.and_self]
    · simp only [PyData.hasDictAll, g.h, b, Bool.or_self]
    · have := g.dp
      simp only [PyData.depthAll]
      omega
    · simp only [PyData.leavesShortAll, g.ls, e, Bool.and_self]
    · have := g.wt
      simp only [PyData.weightAll, List.length_cons]
      rw [Nat.succ_mul]
      omega
theorem wt_up {k n : Nat} (h : k ≤ 9) : k * (100 * 10 ^ n + 1) ≤ 100 * 10 ^ (n + 1) := by
  have h1 : 1 ≤ 10 ^ n := Nat.pow_pos (by decide)
  have h2 := Nat.mul_le_mul_right (100 * 10 ^ n + 1) h
  rw [Nat.pow_succ]
  omega
theorem shw_list {n : Nat} {ds : List PyData} (h : ∀ d ∈ ds, Shw d n) (hl : ds.length ≤ 9) : Shw (.list ds) (n + 1) := by
  obtain ⟨a, b, c, e, f⟩ := shw_all ds h
  exact ⟨by simpa only [PyData.showable] using a, by simpa only [PyData.hasDict] using b, by simp only [PyData.depth]; omega, by simpa only [PyData.leavesShort] using e, by simp only [PyData.weight]; exact Nat.le_trans f (wt_up hl)⟩
theorem shw_tup {n : Nat} {ds : List PyData} (h : ∀ d ∈ ds, Shw d n) (hl : ds.length ≤ 9) : Shw (.tuple ds) (n + 1) := by
  obtain ⟨a, b, c, e, f⟩ := shw_all ds h
  exact ⟨by simpa only [PyData.showable] using a, by simpa only [PyData.hasDict] using b, by simp only [PyData.depth]; omega, by simpa only [PyData.leavesShort] using e, by simp only [PyData.weight]; exact Nat.le_trans f (wt_up hl)⟩
theorem Shw.mono {n m : Nat} {d : PyData} (h : Shw d n) (k : n ≤ m) : Shw d m := ⟨h.s, h.h, Nat.le_trans h.dp k, h.ls, Nat.le_trans h.wt (Nat.mul_le_mul_left _ (Nat.pow_le_pow_right (by decide) k))⟩
/-- what repr asks of it -/
theorem Shw.all {d : PyData} (h : Shw d 3) : d.showable = true ∧ d.hasDict = false ∧ d.depth ≤ 50 ∧ d.shown.length ≤ sizeLine :=
  ⟨h.s, h.h, Nat.le_trans h.dp (by decide), PyData.shown_fits (B := 13) (by decide) (by decide) h.ls (Nat.le_trans h.wt (by decide))⟩
/-- what a goal may be, and the data it is -/
inductive Item (H : Hp) : V → PyData → Prop
  | tup {t : Addr} {xs : List V} : H t = some (.tup xs) → (∀ x ∈ xs, Leaf H x) → xs.length ≤ 9 → Item H (.ref t) (.tuple (xs.map ld))
  | lst {t : Addr} {xs : List V} : H t = some (.lst xs) → (∀ x ∈ xs, Leaf H x) → xs.length ≤ 9 → Item H (.ref t) (.list (xs.map ld))
  | leaf {v : V} : Leaf H v → Item H v (ld v)
theorem Item.keep {H H' : Hp} {v : V} {d : PyData} (h : Item H v d) (k : Keep [] H H') : Item H' v d := by
  cases h with
  | tup a b c => exact .tup (k _ _ a (by simp)) (fun x hx => (b x hx).keep k) c
  | lst a b c => exact .lst (k _ _ a (by simp)) (fun x hx => (b x hx).keep k) c
  | leaf a => exact .leaf (a.keep k)
theorem leaf_all {K : PySem.W.Frag} {H : Hp} : ∀ xs : List V, (∀ x ∈ xs, Leaf H x) → DpAll K H xs (xs.map ld)
  | [], _ => .nil
  | x :: r, h => .cons (h x List.mem_cons_self).ldp (leaf_all r fun y hy => h y (List.mem_cons_of_mem _ hy))
theorem Item.dp {K : PySem.W.Frag} {H : Hp} {v : V} {d : PyData} (h : Item H v d) : Dp K H v d := by
  cases h with
  | tup a b c => exact .tup (.inl (.inl a)) (leaf_all _ b)
  | lst a b c => exact .lst (.inl (.inl a)) (leaf_all _ b)
  | leaf a => exact a.ldp
theorem Item.shw {H : Hp} {v : V} {d : PyData} (h : Item H v d) : Shw d 2 := by
  have ok : ∀ xs : List V, (∀ x ∈ xs, Leaf H x) → ∀ d ∈ xs.map ld, Shw d 1 := fun xs b d hd => by
    obtain ⟨x, hx, rfl⟩ := List.mem_map.mp hd
    exact (b x hx).shw
  cases h with
  | tup a b c => exact shw_tup (ok _ b) (by rw [List.length_map]; exact c)
  | lst a b c => exact shw_list (ok _ b) (by rw [List.length_map]; exact c)
  | leaf a => exact a.shw.mono (by decide)
/-- it is no tuple of a goal's form -/
def NoT (K : PySem.W.Frag) (H : Hp) (v : V) : Prop := (∃ t xs, v = .ref t ∧ H t = some (.tup xs) ∧ (∀ x ∈ xs, Leaf H x) ∧ xs.length ≤ 100 ∧ fits xs = false) ∨ ∃ ty, (∀ H', Keep [] H H' → TyX K H' v (.type ty)) ∧ kitB ty "tuple" = some false
/-- it is one, of these texts -/
def IsG (H : Hp) (v : V) (ws : List Str) : Prop := ∃ t, v = .ref t ∧ H t = some (.tup (ws.map V.str)) ∧ (∀ s ∈ ws, s.length ≤ 1000 ∧ Asc s) ∧ ws.length ≤ 3 ∧ fits (ws.map V.str) = true
theorem NoT.keep {K : PySem.W.Frag} {H H' : Hp} {v : V} (h : NoT K H v) (k : Keep [] H H') : NoT K H' v := by
  rcases h with ⟨t, xs, a, b, c, d, e⟩ | ⟨ty, a, b⟩
  · exact .inl ⟨t, xs, a, k _ _ b (by simp), fun x hx => (c x hx).keep k, d, e⟩
  · exact .inr ⟨ty, fun H2 k2 => a H2 (k.trans k2), b⟩
theorem IsG.keep {H H' : Hp} {v : V} {ws : List Str} (h : IsG H v ws) (k : Keep [] H H') : IsG H' v ws := h.elim fun t h => ⟨t, h.1, k _ _ h.2.1 (by simp), h.2.2⟩
theorem leaf_not {K : PySem.W.Frag} {H : Hp} {v : V} (h : Leaf H v) : NoT K H v := by
  cases h with
  | str s _ _ => exact .inr ⟨_, fun _ _ => .base (.str _), by decide +kernel⟩
  | non => exact .inr ⟨_, fun _ _ => .base .non, by decide +kernel⟩
  | int => exact .inr ⟨_, fun _ _ => .base (.int _), by decide +kernel⟩
  | lst e => exact .inr ⟨_, fun _ k => .base (.lst (k _ _ e (by simp))), by decide +kernel⟩
theorem Item.kind {K : PySem.W.Frag} {H : Hp} {v : V} {d : PyData} (h : Item H v d) : NoT K H v ∨ ∃ ws, IsG H v ws := by
  cases h with
  | @tup t xs a b c =>
    cases hf : fits xs with
    | false => exact .inl (.inl ⟨_, _, rfl, a, b, Nat.le_trans c (by decide), hf⟩)
    | true =>
      obtain ⟨ws, rfl, hl, _⟩ := fits_strs hf
      refine .inr ⟨ws, t, rfl, a, fun s hs => ?_, hl, hf⟩
      have := b (.str s) (List.mem_map.mpr ⟨s, hs, rfl⟩)
      cases this with
      | str _ h1 h2 => exact ⟨h1, h2⟩
  | lst a b c => exact .inl (.inr ⟨_, fun _ k => .base (.lst (k _ _ a (by simp))), by decide +kernel⟩)
  | leaf a => exact .inl (leaf_not a)
end X
end K86
namespace K86
namespace X
open PySem PySem.Spec PyProof.Rows L2 FR TL
open C8 (pss_cut pe_gc)
open StX (pe_callS2 pa_star)
def joinW (ws : List Str) : Str := Txt.join (Str.ofString " ") ws
theorem join_ok {ws : List Str} (h : ∀ s ∈ ws, s.length ≤ 1000 ∧ Asc s) (hl : ws.length ≤ 3) : (joinW ws).length ≤ 3003 ∧ Asc (joinW ws) := by
  have hsum : (ws.map (·.length)).sum ≤ 3 * 1000 := Nat.le_trans (sum_le fun t ht => (h t ht).1) (Nat.mul_le_mul_right 1000 hl)
  have hj := join_len (Str.ofString " ") ws
  rw [show (Str.ofString " ").length = 1 by decide +kernel] at hj
  refine ⟨?_, Asc.join (Asc.of (by decide +kernel)) fun t ht => (h t ht).2⟩
  unfold joinW
  omega
theorem join_fit {ws : List Str} (h : ∀ s ∈ ws, s.length ≤ 1000 ∧ Asc s) (hl : ws.length ≤ 3) : (ws.map (·.length)).sum + ws.length * (Str.ofString " ").length ≤ sizeLine := by
  have hsum : (ws.map (·.length)).sum ≤ 3 * 1000 := Nat.le_trans (sum_le fun t ht => (h t ht).1) (Nat.mul_le_mul_right 1000 hl)
  rw [show (Str.ofString " ").length = 1 by decide +kernel]
  exact size_le (by omega)
section
variable {P : Program} {w : World} {K : PySem.W.Frag} {mg : Str → Option Value} {base : Heap} {A : Ads}
set_option pp.maxSteps 120
def spGoal (K : PySem.W.Frag) (C : Addr) : Sp := fun vs H Q E => ∃ v, vs = [v] ∧ ((NoT K H v ∧ Out C v E H) ∨ (∃ ws, IsG H v ws ∧ ∀ H', Keep [] H H' → Q (.str (joinW ws)) H'))
theorem ok_goal_text (T : Txt K mg A) : FnOk P w K mg base (L2.CX P w) 4 A.f_goal_text A.d_goal_text ["goal"] (spGoal K A.C_InvalidGoal) := by
  refine T.F_goal_text.okX sc_goal_text (fun vs H Q E h => ?_) (fun cdv A_ outer s_ H vs Q E hr h => ?_)
  · obtain ⟨v, rfl, _⟩ := h
    rfl
  · obtain ⟨v, rfl, h⟩ := h
    have W : Ow H [] H [] := Ow.start0
    refine ⟨_, (pss_cons (ps_if (pt_not (pt_val (pe_call (ok_is_aim T) hr (by rfl) T.g_is_aim T.F_is_aim.kp T.B_is_aim .nil pass0 (pa_cons (pv 0) pa_nil)))) (pss_one (ps_raiseLow rfl T.low_InvalidGoal hr (takes_of rfl rfl rfl rfl) (pa_cons (pv 0) pa_nil))) pss_nil)
  (pss_one (ps_ret (pe_join pe_str (pe_callTy call_lofN (by rfl) T.b_list (by decide +kernel) (pa_cons (pv 0) pa_nil)))))), ?_⟩
    walk_at "rd"
    rcases h with ⟨hv, hE⟩ | ⟨ws, ⟨t, rfl, ht, hw, hl, hf⟩, q⟩
    · rcases hv with ⟨t, xs, rfl, ht, hx, hl, hf⟩ | ⟨ty, hty, kt⟩
      · refine .inl ⟨t, xs, rfl, ht, hx, hl, fun H1 k1 => ?_⟩
        rw [hf]
        walk_at "rd"
        intro d hd
        exact hE d _ (k1.trans (keep_new hd)) upd_same
      · refine .inr ⟨⟨ty, hty H Keep.refl, kt⟩, ?_⟩
        walk_at "rd"
        intro d hd
        exact hE d _ (keep_new hd) upd_same
    · refine .inl ⟨t, _, rfl, ht, fun x hx => ?_, by rw [List.length_map]; omega, fun H1 k1 => ?_⟩
      · obtain ⟨s, hs, rfl⟩ := List.mem_map.mp hx
        exact .str s (hw s hs).1 (hw s hs).2
      rw [hf]
      have W1 := W.call0 k1
      walk_at "rd"
      refine ⟨_, _, rfl, .inr (.inl (.inl (k1 _ _ ht (by simp)))), ?_⟩
      walk_at "obj"
      rename_i p2 H2 np2 kp2 hp2 W2
      refine ⟨_, _, ws, rfl, rfl, .inl (W2.sq 0 rfl), ?_, ?_⟩
      · have hsum : (ws.map (·.length)).sum ≤ 3 * 1000 := Nat.le_trans (sum_le fun t ht => (hw t ht).1) (Nat.mul_le_mul_right 1000 hl)
        rw [show (Str.ofString " ").length = 1 by decide +kernel]
        omega
      · exact q H2 (k1.trans kp2)
theorem wds_ok {s : Str} (hl : s.length ≤ 90) (ha : Asc s) : (wds s).length ≤ 91 ∧ ∀ u ∈ wds s, u.length ≤ 90 ∧ Asc u :=
  ⟨Nat.le_trans (split_len (by decide)) (by omega), fun u hu => ⟨Nat.le_trans (split_le (by decide) u hu) hl, split_asc (by decide) ha u hu⟩⟩
theorem wds_leaf {s : Str} {H : Hp} (hl : s.length ≤ 90) (ha : Asc s) : (∀ x ∈ (wds s).map V.str, Leaf H x) ∧ ((wds s).map V.str).length ≤ 100 := by
  obtain ⟨h1, h2⟩ := wds_ok hl ha
  refine ⟨fun x hx => ?_, by rw [List.length_map]; omega⟩
  obtain ⟨u, hu, rfl⟩ := List.mem_map.mp hx
  exact .str u (Nat.le_trans (h2 u hu).1 (by decide)) (h2 u hu).2
def spRead (K : PySem.W.Frag) (C : Addr) : Sp := fun vs H Q E => ∃ v, vs = [v] ∧ ((∃ s, v = .str s ∧ s.length ≤ 90 ∧ Asc s ∧
    ((fits ((wds s).map V.str) = true ∧ ∀ p H', H p = none → Keep [] H H' → H' p = some (.tup ((wds s).map V.str)) → Q (.ref p) H') ∨ (fits ((wds s).map V.str) = false ∧ Out C v E H))) ∨
  ((∃ ty, TyX K H v (.type ty) ∧ kitB ty "str" = some false) ∧ Out C v E H))
theorem ok_read_goal (T : Txt K mg A) : FnOk P w K mg base (L2.CX P w) 4 A.f_read_goal A.d_read_goal ["text"] (spRead K A.C_InvalidText) := by
  refine T.F_read_goal.okX sc_read_goal (fun vs H Q E h => ?_) (fun cdv A_ outer s_ H vs Q E hr h => ?_)
  · obtain ⟨v, rfl, _⟩ := h
    rfl
  · obtain ⟨v, rfl, h⟩ := h
    have W : Ow H [] H [] := Ow.start0
    obtain ⟨ds1, rd_split_words_1, bd_split_words_1⟩ := bd1 T
    refine ⟨_, (pss_cons (ps_set (i := 1) sc_read_goal.nd rfl (.inl rfl) (pe_call (ok_split_words T) (hr.mono (by decide)) (by rfl) T.g_split_words T.F_split_words.kp bd_split_words_1 rd_split_words_1 pass0 (pa_cons (pv 0) pa_nil)))
  (pss_cons (ps_if (PW.pt (pw_or (pt_cmpR op_isN (pv 1) pe_non (nomark _)) (pw_or1 (pt_not (pt_val (pe_call (ok_is_aim T) hr (by rfl) T.g_is_aim T.F_is_aim.kp T.B_is_aim .nil pass0 (pa_cons (pe_callTy call_tuple_of (by rfl) T.b_tuple (by decide +kernel) (pa_cons (pv 1) pa_nil)) pa_nil))))))) (pss_one (ps_raiseLow rfl T.low_InvalidText hr (takes_of rfl rfl rfl rfl) (pa_cons (pv 0) pa_nil))) pss_nil)
  (pss_one (ps_ret (pe_callTy call_tuple_of (by rfl) T.b_tuple (by decide +kernel) (pa_cons (pv 1) pa_nil)))))), ?_⟩
    walk_at "rd"
    rcases h with ⟨s, rfl, hl, ha, q⟩ | ⟨hty, hE⟩
    · refine .inl ⟨s, rfl, by omega, ha, fun hb H1 k1 => ?_, fun hb p H1 np k1 hp => ?_⟩
      · rcases q with ⟨hf, _⟩ | ⟨hf, hE⟩
        · exact absurd hb (fits_good hf)
        walk_at "rd"
        intro d hd
        exact hE d _ (k1.trans (keep_new hd)) upd_same
      · have W1 : Ow H [] H1 [(p, .lst ((wds s).map V.str))] := W.res (W.call0 k1) np hp
        walk_at "rd"
        refine ⟨p, _, rfl, .inl ⟨W1.sq 0 rfl, fun t2 np2 => ?_⟩⟩
        have W2 := W1.new (o := .tup ((wds s).map V.str)) np2
        have k2 : Keep [] H1 (upd H1 t2 (.tup ((wds s).map V.str))) := keep_new np2
        generalize upd H1 t2 (.tup ((wds s).map V.str)) = H2 at W2 k2 ⊢
        obtain ⟨lw, ln⟩ := wds_leaf (H := H2) hl ha
        walk_at "rd"
        refine .inl ⟨t2, _, rfl, W2.get 0 rfl, lw, ln, fun H3 k3 => ?_⟩
        have W3 := W2.call0 k3
        rcases q with ⟨hf, q⟩ | ⟨hf, hE⟩
        · rw [hf]
          walk_at "rd"
          refine ⟨p, _, rfl, .inl ⟨W3.sq 1 rfl, fun t4 np4 => ?_⟩⟩
          exact q t4 _ (Keep.free W3.keep np4) (Keep.trans W3.keep (keep_new np4)) upd_same
        · rw [hf]
          walk_at "rd"
          intro d hd
          exact hE d _ (Keep.trans W3.keep (keep_new hd)) upd_same
    · refine .inr ⟨hty, ?_⟩
      walk_at "rd"
      intro d hd
      exact hE d _ (keep_new hd) upd_same
theorem kbg (T : Txt K mg A) : KBn K A.d_goal_text ["goal"] 0 ["goal"] (fun us ws => ws) (fun vs zs => zs) :=
  FR.kbF T.F_goal_text 0 ["goal"] (fun us ws => ws) (fun a b => b) fun kV doc pm an cdv ct us ws h1 h2 => match us, ws, h1, h2 with
    | [], [_], _, _ => rfl
theorem kbr (T : Txt K mg A) : KBn K A.d_read_goal ["text"] 0 ["text"] (fun us ws => ws) (fun vs zs => zs) :=
  FR.kbF T.F_read_goal 0 ["text"] (fun us ws => ws) (fun a b => b) fun kV doc pm an cdv ct us ws h1 h2 => match us, ws, h1, h2 with
    | [], [_], _, _ => rfl
def spTried (K : PySem.W.Frag) : Sp := fun vs H Q _ => ∃ (way : Int) (v : V), vs = [.int way, v] ∧
  ((way = 0 ∧ ((NoT K H v ∧ NewO (.lst [.str (Str.ofString "goal"), v, .bl true]) Q H) ∨ (∃ ws, IsG H v ws ∧ NewO (.lst [.str (Str.ofString "told"), .str (joinW ws)]) Q H))) ∨
   (way = 1 ∧ ((∃ s, v = .str s ∧ s.length ≤ 90 ∧ Asc s ∧ fits ((wds s).map V.str) = true ∧ ∀ t, H t = none → ∀ p H', H p = none → H' t = some (.tup ((wds s).map V.str)) → H' p = some (.lst [.str (Str.ofString "told"), .ref t]) → Keep [] H H' → Q (.ref p) H') ∨
     (((∃ s, v = .str s ∧ s.length ≤ 90 ∧ Asc s ∧ fits ((wds s).map V.str) = false) ∨ ∃ ty, TyX K H v (.type ty) ∧ kitB ty "str" = some false) ∧ NewO (.lst [.str (Str.ofString "text"), v, .bl true]) Q H))))
theorem ok_tried (T : Txt K mg A) : FnOk P w K mg base CX0 5 A.f_tried A.d_tried ["_law_way", "_law_thing"] (spTried K) := by
  refine T.F_tried.ok sc_tried (fun vs H Q E h => ?_) (fun cdv A_ outer s_ H vs Q E hr h => ?_)
  · obtain ⟨way, v, rfl, _⟩ := h
    rfl
  · obtain ⟨way, v, rfl, h⟩ := h
    have W : Ow H [] H [] := Ow.start0
    have kb_goal_text_0_goal := kbg T
    have kb_read_goal_0_text := kbr T
    refine ⟨_, (pss_one (ps_try_asM (i := 2) rfl rfl sc_tried.nd rfl rfl (fun W pn xe tk _ => (pss_one (ps_ret (pe_lstS (pa_cons pe_str (pa_cons (pe_ifExp (pt_cmpR op_eq (pv 0) pe_int (nomark _)) (pe_callN0S (ok_goal_text T) hr (by rfl) T.g_goal_text T.F_goal_text.kp kb_goal_text_0_goal (fun σ => passAt tk σ) (pk_cons (pv 1) pk_nil)) (pe_callN0S (ok_read_goal T) hr (by rfl) T.g_read_goal T.F_read_goal.kp kb_read_goal_0_text (fun σ => passAt tk σ) (pk_cons (pv 1) pk_nil))) pa_nil))))))
  (ClausesOk.cons ⟨rfl, by decide, .inl T.low_InvalidGoal.gC⟩ (fun a oe cls d pn hz hf => (pss_one (ps_ret (pe_lstS (pa_cons pe_str (pa_cons (pe_byLow T.low_InvalidGoal hz hf (pv 2)) (pa_cons (pe_and (pe_callB (call_isH hz hf) (by rfl) T.b_isinstance (by decide +kernel) (pa_cons (pv 2) (pa_cons (pe_gc rfl T.c_RightsError) pa_nil))) (pe_one (pe_not (pe_callB (call_isH hz hf) (by rfl) T.b_isinstance (by decide +kernel) (pa_cons (pv 2) (pa_cons (pe_gc rfl T.c_MissingError) pa_nil)))))) pa_nil)))))))
  (ClausesOk.cons ⟨rfl, by decide, .inl T.low_InvalidText.gC⟩ (fun a oe cls d pn hz hf => (pss_one (ps_ret (pe_lstS (pa_cons pe_str (pa_cons (pe_byLow T.low_InvalidText hz hf (pv 2)) (pa_cons (pe_and (pe_callB (call_isH hz hf) (by rfl) T.b_isinstance (by decide +kernel) (pa_cons (pv 2) (pa_cons (pe_gc rfl T.c_RightsError) pa_nil))) (pe_one (pe_not (pe_callB (call_isH hz hf) (by rfl) T.b_isinstance (by decide +kernel) (pa_cons (pv 2) (pa_cons (pe_gc rfl T.c_InvalidGoal) pa_nil)))))) pa_nil)))))))
  ClausesOk.nil)))), ?_⟩
    rcases h with ⟨rfl, h⟩ | ⟨rfl, h⟩
    · walk_at "rd"
      rcases h with ⟨hv, q⟩ | ⟨ws, hv, q⟩
      · refine .inl ⟨hv, fun d H1 k1 e1 => ?_⟩
        refine ⟨true, T.low_InvalidGoal.te, fun _ a0 ha => ?_, fun z => Bool.noConfusion z⟩
        have W1 := W.call0 k1
        walk_at "rd"
        refine ⟨d, v, rfl, e1, ?_⟩
        walk_at "rd"
        refine ⟨_, _, _, _, ⟨rfl, T.ec_InvalidGoal, d, _, rfl, e1⟩, rfl, .own _, T.kit_InvalidGoal_RightsError, ?_⟩
        walk_at "rd"
        refine ⟨_, _, _, _, ⟨rfl, T.ec_InvalidGoal, d, _, rfl, e1⟩, rfl, .own _, T.kit_InvalidGoal_MissingError, ?_⟩
        walk_at "rd"
        rename_i p3 H3 np3 sp3 kp3 hp3 W3
        exact q.to p3 H3 (Keep.free k1 np3) W3.keep hp3
      · refine .inr ⟨ws, hv, fun H1 k1 => ?_⟩
        have W1 := W.call0 k1
        walk_at "rd"
        rename_i p3 H3 np3 sp3 kp3 hp3 W3
        exact q.to p3 H3 (Keep.free k1 np3) W3.keep hp3
    · walk_at "rd"
      rcases h with ⟨s, rfl, hl, ha, hf, q⟩ | ⟨h, q⟩
      · refine .inl ⟨s, rfl, hl, ha, .inl ⟨hf, fun t H1 nt k1 ht => ?_⟩⟩
        have W1 : Ow H [] H1 [(t, .tup ((wds s).map V.str))] := W.res (W.call0 k1) nt ht
        walk_at "rd"
        rename_i p3 H3 np3 sp3 kp3 hp3 W3
        exact q t nt p3 H3 (Keep.free k1 np3) (W3.get 1 rfl) hp3 W3.keep
      · rcases h with ⟨s, rfl, hl, ha, hf⟩ | ht
        · refine .inl ⟨s, rfl, hl, ha, .inr ⟨hf, fun d H1 k1 e1 => ?_⟩⟩
          refine ⟨false, T.exm_InvalidText_InvalidGoal, fun z => Bool.noConfusion z, fun _ => ?_⟩
          refine ⟨true, T.low_InvalidText.te, fun _ a0 ha => ?_, fun z => Bool.noConfusion z⟩
          have W1 := W.call0 k1
          walk_at "rd"
          refine ⟨d, _, rfl, e1, ?_⟩
          walk_at "rd"
          refine ⟨_, _, _, _, ⟨rfl, T.ec_InvalidText, d, _, rfl, e1⟩, rfl, .own _, T.kit_InvalidText_RightsError, ?_⟩
          walk_at "rd"
          refine ⟨_, _, _, _, ⟨rfl, T.ec_InvalidText, d, _, rfl, e1⟩, rfl, .own _, T.kit_InvalidText_InvalidGoal, ?_⟩
          walk_at "rd"
          rename_i p3 H3 np3 sp3 kp3 hp3 W3
          exact q.to p3 H3 (Keep.free k1 np3) W3.keep hp3
        · refine .inr ⟨ht, fun d H1 k1 e1 => ?_⟩
          refine ⟨false, T.exm_InvalidText_InvalidGoal, fun z => Bool.noConfusion z, fun _ => ?_⟩
          refine ⟨true, T.low_InvalidText.te, fun _ a0 ha => ?_, fun z => Bool.noConfusion z⟩
          have W1 := W.call0 k1
          walk_at "rd"
          refine ⟨d, _, rfl, e1, ?_⟩
          walk_at "rd"
          refine ⟨_, _, _, _, ⟨rfl, T.ec_InvalidText, d, _, rfl, e1⟩, rfl, .own _, T.kit_InvalidText_RightsError, ?_⟩
          walk_at "rd"
          refine ⟨_, _, _, _, ⟨rfl, T.ec_InvalidText, d, _, rfl, e1⟩, rfl, .own _, T.kit_InvalidText_InvalidGoal, ?_⟩
          walk_at "rd"
          rename_i p3 H3 np3 sp3 kp3 hp3 W3
          exact q.to p3 H3 (Keep.free k1 np3) W3.keep hp3
end
end X
end K86
namespace K86
namespace X
open PySem PySem.Spec PyProof.Rows L2 FR TL
open C8 (pss_cut pe_gc)
open StX (pe_callS2 pa_star)
section
variable {P : Program} {w : World} {K : PySem.W.Frag} {mg : Str → Option Value} {base : Heap} {A : Ads}
set_option pp.maxSteps 120
def spNm : Sp := fun vs H Q _ => ∃ (b : Addr) (n : Nat) (x y z : Int), vs = [.ref b] ∧ H b = some (bagO x y z) ∧ BagOk n x y z ∧ n < 800000 ∧
  ∀ (s : Str) (x' y' z' : Int) (H' : Hp), s.length ≤ 8 → Asc s → BagOk (n + 9) x' y' z' → Keep [b] H H' → H' b = some (bagO x' y' z') → Q (.str s) H'
theorem ok_name (T : Txt K mg A) : FnOk P w K mg base CX0 2 A.f_name A.d_name ["_law_bag_here"] spNm := by
  refine T.F_name.ok sc_name (fun vs H Q E h => ?_) (fun cdv A_ outer s_ H vs Q E hr h => ?_)
  · obtain ⟨b, n, x, y, z, rfl, _⟩ := h
    rfl
  · obtain ⟨b, n, x, y, z, rfl, hb, ok, hn, q⟩ := h
    have W := Ow.start1 hb
    refine ⟨_, (pss_cons (ps_set (i := 1) sc_name.nd rfl (.inr rfl) pe_str)
  (pss_one (ps_ret (pe_join pe_str (pe_lc (own := [("_law_k", 2)]) (g := gName 2) rfl sc_name.nd (pi_range1 (by rfl) T.b_range (pa_cons (pe_op op_add pe_int (pe_call (ok_take T) hr (by rfl) T.g_take T.F_take.kp T.B_take .nil pass0 (pa_cons (pv 0) (pa_cons pe_int pa_nil)))) pa_nil)) (blkOk_by (own := [("_law_k", 2)]) (N := N_name) (sc := defScope s_name) (by decide +kernel)) (fun _ _ _ _ _ => pg_name (i := 2) sc_name.nd rfl (Or.inl rfl)) (fun _ _ _ _ _ => pts_nil) (fun _ _ _ _ _ => (pe_ix ix_str (pv 1) (pe_call (ok_take T) hr (by rfl) T.g_take T.F_take.kp T.B_take .nil pass0 (pa_cons (pv 0) (pa_cons pe_int pa_nil))) (fun _ _ => rfl)))))))), ?_⟩
    walk_at "rd"
    walk_at "take"
    rename_i d1 x1 y1 z1 H1 d10 d11 ok1 kp1 hb1 W1
    walk_at "rd"
    intro D hD
    refine lc_rg (fun i H' => ∃ (ws : List Str) (x y z : Int), ws.length = i ∧ (∀ t ∈ ws, t.length ≤ 1 ∧ Asc t) ∧ BagOk (n + 1 + i) x y z ∧ Ow H [b] H' [(D, .lst (ws.map V.str)), (b, bagO x y z)]) ?_ ?_ ?_
    · exact ⟨[], _, _, _, rfl, by simp, ok1, W1.new hD⟩
    · rintro i H7 hi ⟨ws, x7, y7, z7, hl, hws, ok7, W7⟩
      have hi' : i < 8 := by omega
      walk_at "rd"
      walk_at "take"
      rename_i d8 x8 y8 z8 H8 d80 d81 ok8 kp8 hb8 W8
      obtain ⟨c, hc, hm⟩ := atI_in (xs := tl (Str.ofString "abcdefghijklmnopqrstuvwxyz")) d80 (by rw [show (tl (Str.ofString "abcdefghijklmnopqrstuvwxyz")).length = 26 by decide +kernel]; exact d81)
      have hc8 : c < 128 := Asc.of (x := Str.ofString "abcdefghijklmnopqrstuvwxyz") (by decide +kernel) c hm
      refine ⟨_, _, c, rfl, rfl, size_le (by decide +kernel), hc, ?_⟩
      refine ⟨_, W8.get 0 rfl, size_ok (by rw [List.length_map]; omega), ws ++ [⟨#[c]⟩], x8, y8, z8, by rw [List.length_append, hl]; rfl, fun u hu => ?_, ok8.mono (by omega), ?_⟩
      · rcases List.mem_append.mp hu with h | h
        · exact hws u h
        · rw [List.mem_singleton.mp h]
          exact ⟨Nat.le_refl _, fun e he => by rw [List.mem_singleton.mp (show e ∈ [c] from he)]; exact hc8⟩
      · rw [List.map_append]
        exact W8.set 0 rfl
    · rintro H9 ⟨ws, x9, y9, z9, hl, hws, ok9, W9⟩
      have hwl : ws.length ≤ 8 := by omega
      have hsum : (ws.map (·.length)).sum ≤ 8 * 1 := Nat.le_trans (sum_le fun t ht => (hws t ht).1) (Nat.mul_le_mul_right 1 hwl)
      have h1 : (Str.ofString "").length = 0 := by decide +kernel
      have hjl := join_len (Str.ofString "") ws
      have hja : Asc (Txt.join (Str.ofString "") ws) := Asc.join (Asc.of (by decide +kernel)) fun t ht => (hws t ht).2
      rw [h1] at hjl
      walk_at "rd"
      refine ⟨_, _, ws, rfl, rfl, .inl (W9.sq 0 rfl), by rw [h1]; exact size_le (by omega), ?_⟩
      exact q _ _ _ _ H9 (by omega) hja (ok9.mono (by omega)) W9.keep (W9.get 1 rfl)
theorem st_ok : ∀ s ∈ ([Str.ofString "goal", Str.ofString "text", Str.ofString "told"] : List Str), s.length ≤ 100 ∧ (tl s).all (fun c => decide (c < 128)) = true := by decide +kernel
/-- [s, v, True] as data -/
theorem no_data {H : Hp} {v : V} {d : PyData} {s : Str} {p : Addr} (hs : s ∈ ([Str.ofString "goal", Str.ofString "text", Str.ofString "told"] : List Str)) (hi : Item H v d) (hp : H p = some (.lst [.str s, v, .bl true])) :
    Dp K H (.ref p) (.list [.str s, d, .bool true]) ∧ (PyData.list [.str s, d, .bool true]).showable = true ∧ (PyData.list [.str s, d, .bool true]).hasDict = false ∧ (PyData.list [.str s, d, .bool true]).depth ≤ 50 ∧ (PyData.list [.str s, d, .bool true]).shown.length ≤ sizeLine := by
  refine ⟨.lst (.inl (.inl hp)) (.cons (.str _) (.cons hi.dp (.cons (.bl _) .nil))), (shw_list (n := 2) (fun x hx => ?_) (by show 3 ≤ 9; decide)).all⟩
  simp only [List.mem_cons, List.not_mem_nil, or_false] at hx
  rcases hx with rfl | rfl | rfl
  · exact shw_str (Nat.le_trans (st_ok _ hs).1 (by decide)) (Asc.of (st_ok _ hs).2)
  · exact hi.shw
  · exact ⟨rfl, rfl, by decide, rfl, by decide⟩
/-- [«told», a text] as data -/
theorem told_data {H : Hp} {j : Str} {p : Addr} (hl : j.length ≤ 10000) (ha : Asc j) (hp : H p = some (.lst [.str (Str.ofString "told"), .str j])) :
    Dp K H (.ref p) (.list [.str (Str.ofString "told"), .str j]) ∧ (PyData.list [.str (Str.ofString "told"), .str j]).showable = true ∧ (PyData.list [.str (Str.ofString "told"), .str j]).hasDict = false ∧ (PyData.list [.str (Str.ofString "told"), .str j]).depth ≤ 50 ∧ (PyData.list [.str (Str.ofString "told"), .str j]).shown.length ≤ sizeLine := by
  refine ⟨.lst (.inl (.inl hp)) (.cons (.str _) (.cons (.str _) .nil)), (shw_list (n := 2) (fun x hx => ?_) (by show 2 ≤ 9; decide)).all⟩
  simp only [List.mem_cons, List.not_mem_nil, or_false] at hx
  rcases hx with rfl | rfl
  · exact shw_str (by decide +kernel) (Asc.of (by decide +kernel))
  · exact shw_str (Nat.le_trans hl (by decide)) ha
theorem wt_words : ∀ ws : List Str, (∀ u ∈ ws, u.length ≤ 90) → PyData.weightAll (ws.map .str) ≤ ws.length * 91
  | [], _ => Nat.zero_le _
  | u :: r, h => by
    have ih := wt_words r fun x hx => h x (List.mem_cons_of_mem _ hx)
    have hu : u.cps.size ≤ 90 := h u List.mem_cons_self
    simp only [List.map_cons, PyData.weightAll, PyData.weight, List.length_cons]
    omega
theorem shw_words {s : Str} (hl : s.length ≤ 90) (ha : Asc s) : Shw (.tuple ((wds s).map .str)) 2 := by
  obtain ⟨h1, h2⟩ := wds_ok hl ha
  obtain ⟨a, b, c, e, _⟩ := shw_all (n := 0) ((wds s).map .str) (fun d hd => by
    obtain ⟨u, hu, rfl⟩ := List.mem_map.mp hd
    exact shw_str (Nat.le_trans (h2 u hu).1 (by decide)) (h2 u hu).2)
  refine ⟨by simpa only [PyData.showable] using a, by simpa only [PyData.hasDict] using b, by simp only [PyData.depth]; omega, by simpa only [PyData.leavesShort] using e, ?_⟩
  simp only [PyData.weight]
  have h3 := wt_words (wds s) fun u hu => (h2 u hu).1
  have h4 := Nat.mul_le_mul_right 91 h1
  exact Nat.le_trans h3 (Nat.le_trans h4 (by decide))
/-- [«told», the words] as data -/
theorem words_data {H : Hp} {s : Str} {p t : Addr} (hl : s.length ≤ 90) (ha : Asc s) (hp : H p = some (.lst [.str (Str.ofString "told"), .ref t])) (ht : H t = some (.tup ((wds s).map V.str))) :
    Dp K H (.ref p) (.list [.str (Str.ofString "told"), .tuple ((wds s).map .str)]) ∧ (PyData.list [.str (Str.ofString "told"), .tuple ((wds s).map .str)]).showable = true ∧ (PyData.list [.str (Str.ofString "told"), .tuple ((wds s).map .str)]).hasDict = false ∧ (PyData.list [.str (Str.ofString "told"), .tuple ((wds s).map .str)]).depth ≤ 50 ∧ (PyData.list [.str (Str.ofString "told"), .tuple ((wds s).map .str)]).shown.length ≤ sizeLine := by
  refine ⟨.lst (.inl (.inl hp)) (.cons (.str _) (.cons (.tup (.inl (.inl ht)) (dpAll_strs _)) .nil)), (shw_list (n := 2) (fun x hx => ?_) (by show 2 ≤ 9; decide)).all⟩
  simp only [List.mem_cons, List.not_mem_nil, or_false] at hx
  rcases hx with rfl | rfl
  · exact shw_str (by decide +kernel) (Asc.of (by decide +kernel))
  · exact shw_words hl ha
theorem aim_no {H : Hp} {v : V} {Q : VK} (h : NoT K H v) (q : ∀ H', Keep [] H H' → Q (.bl false) H') :
    (∃ t xs, v = .ref t ∧ H t = some (.tup xs) ∧ (∀ x ∈ xs, Leaf H x) ∧ xs.length ≤ 100 ∧ ∀ H', Keep [] H H' → Q (.bl (fits xs)) H') ∨ ((∃ ty, TyX K H v (.type ty) ∧ kitB ty "tuple" = some false) ∧ Q (.bl false) H) := by
  rcases h with ⟨t, xs, a, b, c, d, e⟩ | ⟨ty, a, b⟩
  · exact .inl ⟨t, xs, a, b, c, d, by rw [e]; exact q⟩
  · exact .inr ⟨⟨ty, a H Keep.refl, b⟩, q H Keep.refl⟩
theorem aim_yes {H : Hp} {v : V} {ws : List Str} {Q : VK} (h : IsG H v ws) (q : ∀ H', Keep [] H H' → Q (.bl true) H') :
    (∃ t xs, v = .ref t ∧ H t = some (.tup xs) ∧ (∀ x ∈ xs, Leaf H x) ∧ xs.length ≤ 100 ∧ ∀ H', Keep [] H H' → Q (.bl (fits xs)) H') ∨ ((∃ ty, TyX K H v (.type ty) ∧ kitB ty "tuple" = some false) ∧ Q (.bl false) H) := by
  obtain ⟨t, a, b, c, d, e⟩ := h
  refine .inl ⟨t, _, a, b, fun x hx => ?_, by rw [List.length_map]; omega, by rw [e]; exact q⟩
  obtain ⟨s, hs, rfl⟩ := List.mem_map.mp hx
  exact .str s (c s hs).1 (c s hs).2
def aims : List Str := ["read", "write", "gone", "lost", "made", "led", "shut"]
theorem aims_ok : ∀ s ∈ aims, s.length ≤ 5 ∧ (tl s).all (fun c => decide (c < 128)) = true := by decide +kernel
/-- between two words -/
def Turn (p b : Addr) (H0 : Hp) (n : Nat) (H : Hp) : Prop := ∃ x y z, BagOk n x y z ∧ Ow H0 [] H [(p, .lst (aims.map V.str)), (b, bagO x y z)]
/-- a goal has been drawn -/
def GRow (g p b : Addr) (H0 : Hp) (n : Nat) (H : Hp) : Prop := ∃ (ws : List Str) (x y z : Int), (2 ≤ ws.length ∧ ws.length ≤ 3) ∧ (ws.map (·.length)).sum ≤ 50 ∧ (∀ s ∈ ws, s.length ≤ 50 ∧ Asc s) ∧ BagOk n x y z ∧ Ow H0 [] H [(g, .tup (ws.map V.str)), (p, .lst (aims.map V.str)), (b, bagO x y z)]
def spLaw (K : PySem.W.Frag) : Sp := fun vs H Q _ => ∃ (a : Addr) (ns : List Int), vs = [.ref a] ∧ SqL K H a (ns.map V.int) ∧ ns.length ≤ 63 ∧ ∀ H', Q (.bl true) H'
/-- the things that are told of -/
def Things (Lth : List V) (odd : V) (ws : List Str) (pth g p b : Addr) (H0 : Hp) (n : Nat) (H : Hp) : Prop := (∃ x y z, BagOk n x y z ∧ Ow H0 [] H [(pth, .lst Lth), (g, .tup (ws.map V.str)), (p, .lst (aims.map V.str)), (b, bagO x y z)]) ∧ (∀ v ∈ Lth, ∃ d, Item H v d) ∧ Leaf H odd
end
namespace Y
section
variable {P : Program} {w : World} {K : PySem.W.Frag} {mg : Str → Option Value} {base : Heap} {A : Ads}
theorem ok_fits (T : Txt K mg A) : FnOk P w K mg base CX0 3 A.f_fits A.d_fits ["_law_thing"] (fun vs H Q _ => ∃ v, vs = [v] ∧ ((NoT K H v ∧ ∀ H', Keep [] H H' → Q (.bl false) H') ∨ ((∃ ws, IsG H v ws) ∧ ∀ H', Keep [] H H' → Q (.bl true) H'))) :=
  (X.ok_fits T).imp fun vs H Q E h => by
    obtain ⟨v, rfl, ⟨hn, q⟩ | ⟨⟨ws, hg⟩, q⟩⟩ := h
    · exact ⟨v, rfl, aim_no hn q⟩
    · exact ⟨v, rfl, aim_yes hg q⟩
theorem words_no {K : PySem.W.Frag} {H : Hp} {s : Str} {t : Addr} (hl : s.length ≤ 90) (ha : Asc s) (ht : H t = some (.tup ((wds s).map V.str))) (hf : fits ((wds s).map V.str) = false) : NoT K H (.ref t) := by
  obtain ⟨lw, ln⟩ := wds_leaf (H := H) hl ha
  exact .inl ⟨t, _, rfl, ht, lw, ln, hf⟩
theorem words_yes {H : Hp} {s : Str} {t : Addr} (hl : s.length ≤ 90) (ha : Asc s) (ht : H t = some (.tup ((wds s).map V.str))) (hf : fits ((wds s).map V.str) = true) : ∃ ws, IsG H (.ref t) ws := by
  obtain ⟨h1, h2⟩ := wds_ok hl ha
  obtain ⟨ws, e, hl3, _⟩ := fits_strs hf
  have e' : wds s = ws := (List.map_inj_right (fun a b h => V.str.inj h)).mp e
  exact ⟨wds s, t, rfl, ht, fun u hu => ⟨Nat.le_trans (h2 u hu).1 (by decide), (h2 u hu).2⟩, by rw [e']; exact hl3, hf⟩
/-- what is read as a text of a goal -/
def TextI (K : PySem.W.Frag) (H : Hp) (v : V) : Prop := (∃ s, v = .str s ∧ s.length ≤ 90 ∧ Asc s) ∨ ((∃ ty, (∀ H', Keep [] H H' → TyX K H' v (.type ty)) ∧ kitB ty "str" = some false) ∧ ∃ d, Item H v d)
end
end Y
end X
end K86
namespace K86
namespace X
namespace Y
open PySem PySem.Spec PyProof.Rows L2 FR TL
open C8 (pss_cut pe_gc)
open StX (pe_callS2 pa_star)
section
variable {P : Program} {w : World} {K : PySem.W.Frag} {mg : Str → Option Value} {base : Heap} {A : Ads}
set_option pp.maxSteps 120
def R_one : TS := fun D σ H => ∃ (v : V) (s0 s1 s2 s3 s4 s5 s6 s7 s8 s9 s11 s12 s13 s14 s15 s16 : Option V), σ = [s0, s1, s2, s3, s4, s5, s6, s7, s8, s9, some v, s11, s12, s13, s14, s15, s16] ∧ (∃ d, Item H v d) ∧ ∀ u H', Keep [] H H' → D.nx [s0, s1, s2, s3, s4, s5, s6, s7, s8, s9, some v, u, s12, s13, s14, s15, s16] H'
theorem blk_one (T : Txt K mg A) {cdv : Value} {A_ : Around} {outer : List Env} {s_ : Shared} {H : Hp} {E : XK} (hgd : A_.guards = some []) (hr : Room 5 (A_.deeper (envOfC "law" (defScope s_law) s_.heap.objs.size A.f_law cdv))) : PSs (cxOf CX0 P w K mg base N_law "law" (defScope s_law) A.f_law cdv A_ outer s_ H E).nox (bdF (nth (bdF (nth (bdF (nth (defBody s_law) 0)) 1)) 5)) (R_one) := by
  refine pss_b (pss_cons (ps_set (i := 11) sc_law.nd rfl (.inl rfl) (pe_ifExp (pt_val (pe_call (ok_fits T) (hr.mono (by decide)) (by rfl) T.g_fits T.F_fits.kp T.B_fits .nil pass0 (pa_cons (pv 10) pa_nil))) (pe_lstS (pa_cons pe_str (pa_cons (pe_join pe_str (pv 10)) pa_nil))) (pe_lstS (pa_cons pe_str (pa_cons (pv 10) (pa_cons pe_bl pa_nil))))))
  (pss_one (ps_if (pt_cmpR op_ne (pe_callB (call_reprD hgd (u65 hr)) (by rfl) T.b_repr (by decide +kernel) (pa_cons (pe_call (ok_tried T) hr (by rfl) T.g_tried T.F_tried.kp T.B_tried .nil pass0 (pa_cons pe_int (pa_cons (pv 10) pa_nil))) pa_nil)) (pe_callB (call_reprD hgd (u65 hr)) (by rfl) T.b_repr (by decide +kernel) (pa_cons (pv 11) pa_nil)) (nomark _)) (pss_one (ps_ret pe_bl)) pss_nil))) ?_
  rintro D σ H3 ⟨v, s0, s1, s2, s3, s4, s5, s6, s7, s8, s9, s11, s12, s13, s14, s15, s16, rfl, ⟨dd, it3⟩, q⟩
  have W3 : Ow H3 [] H3 [] := Ow.start0
  walk_at "rd"
  rcases it3.kind (K := K) with hn | ⟨gs, hg⟩
  · refine .inl ⟨hn, fun H4 k4 => ?_⟩
    have W4 := W3.call0 k4
    walk_at "rd"
    rename_i p5 H5 np5 sp5 kp5 hp5 W5
    have hn5 := (hn.keep k4).keep kp5
    have it5 := (it3.keep k4).keep kp5
    refine .inl ⟨rfl, .inl ⟨hn5, ?_⟩⟩
    walk_at "obj"
    rename_i p6 H6 np6 kp6 hp6 W6
    have a1 := no_data (K := K) (by simp) (it5.keep kp6) hp6
    obtain ⟨txt, htxt⟩ := rep_ex a1
    refine ⟨_, _, rfl, a1.1, a1.2.1, a1.2.2.1, a1.2.2.2.1, a1.2.2.2.2, ?_⟩
    rw [htxt]
    have b1 := no_data (K := K) (by simp) (it5.keep kp6) (W6.get 1 rfl)
    refine ⟨_, rfl, _, _, rfl, b1.1, b1.2.1, b1.2.2.1, b1.2.2.2.1, b1.2.2.2.2, ?_⟩
    rw [htxt]
    walk_at "rd"
    refine same_txt ?_
    walk_at "rd"
    exact q _ _ W6.keep
  · refine .inr ⟨⟨gs, hg⟩, fun H4 k4 => ?_⟩
    have W4 := W3.call0 k4
    have hg4 := hg.keep k4
    obtain ⟨tg, rfl, htg, hgl, hgn, hgf⟩ := hg4
    obtain ⟨jl, ja⟩ := join_ok hgl hgn
    walk_at "rd"
    refine ⟨_, _, gs, rfl, rfl, .inr (.inl (.inl htg)), join_fit hgl hgn, ?_⟩
    rw [show Txt.join (Str.ofString " ") gs = joinW gs from rfl]
    walk_at "rd"
    rename_i p5 H5 np5 sp5 kp5 hp5 W5
    refine .inl ⟨rfl, .inr ⟨gs, ⟨tg, rfl, kp5 _ _ htg (by simp), hgl, hgn, hgf⟩, ?_⟩⟩
    walk_at "obj"
    rename_i p6 H6 np6 kp6 hp6 W6
    have a1 := told_data (K := K) (Nat.le_trans jl (by decide)) ja hp6
    obtain ⟨txt, htxt⟩ := rep_ex a1
    refine ⟨_, _, rfl, a1.1, a1.2.1, a1.2.2.1, a1.2.2.2.1, a1.2.2.2.2, ?_⟩
    rw [htxt]
    have b1 := told_data (K := K) (Nat.le_trans jl (by decide)) ja (W6.get 1 rfl)
    refine ⟨_, rfl, _, _, rfl, b1.1, b1.2.1, b1.2.2.1, b1.2.2.2.1, b1.2.2.2.2, ?_⟩
    rw [htxt]
    walk_at "rd"
    refine same_txt ?_
    walk_at "rd"
    exact q _ _ W6.keep
end
end Y
end X
end K86
namespace K86
namespace X
namespace Y
open PySem PySem.Spec PyProof.Rows L2 FR TL
open C8 (pss_cut pe_gc)
open StX (pe_callS2 pa_star)
section
variable {P : Program} {w : World} {K : PySem.W.Frag} {mg : Str → Option Value} {base : Heap} {A : Ads}
set_option pp.maxSteps 120
theorem TextI.keep {K : PySem.W.Frag} {H H' : Hp} {v : V} (h : TextI K H v) (k : Keep [] H H') : TextI K H' v := by
  rcases h with h | ⟨⟨ty, a, b⟩, d, c⟩
  · exact .inl h
  · exact .inr ⟨⟨ty, fun H2 k2 => a H2 (k.trans k2), b⟩, d, c.keep k⟩
def R_two (K : PySem.W.Frag) : TS := fun D σ H => ∃ (v : V) (s0 s1 s2 s3 s4 s5 s6 s7 s8 s9 s11 s12 s13 s14 s15 s16 : Option V), σ = [s0, s1, s2, s3, s4, s5, s6, s7, s8, s9, some v, s11, s12, s13, s14, s15, s16] ∧ TextI K H v ∧ ∀ u t H', Keep [] H H' → D.nx [s0, s1, s2, s3, s4, s5, s6, s7, s8, s9, some v, u, s12, s13, s14, t, s16] H'
theorem blk_two (T : Txt K mg A) {cdv : Value} {A_ : Around} {outer : List Env} {s_ : Shared} {H : Hp} {E : XK} (hgd : A_.guards = some []) (hr : Room 5 (A_.deeper (envOfC "law" (defScope s_law) s_.heap.objs.size A.f_law cdv))) : PSs (cxOf CX0 P w K mg base N_law "law" (defScope s_law) A.f_law cdv A_ outer s_ H E).nox (bdF (nth (bdF (nth (bdF (nth (defBody s_law) 0)) 1)) 9)) (R_two K) := by
  refine pss_b (pss_cons (ps_set (i := 15) sc_law.nd rfl (.inl rfl) (pe_ifExp (pt_val (pe_callB call_isi (by rfl) T.b_isinstance (by decide +kernel) (pa_cons (pv 10) (pa_cons (pe_bltn (v := .ty "str") rfl T.b_str (by decide +kernel) rfl) pa_nil)))) (pe_callTy call_tuple_of (by rfl) T.b_tuple (by decide +kernel) (pa_cons (pe_m1 PySem.F.slot_str_split PySem.F.type_str_split mt_splN (pv 10) pe_str) pa_nil)) pe_non))
  (pss_cons (ps_set (i := 11) sc_law.nd rfl (.inl rfl) (pe_ifExp (pt_val (pe_call (ok_fits T) (hr.mono (by decide)) (by rfl) T.g_fits T.F_fits.kp T.B_fits .nil pass0 (pa_cons (pv 15) pa_nil))) (pe_lstS (pa_cons pe_str (pa_cons (pv 15) pa_nil))) (pe_lstS (pa_cons pe_str (pa_cons (pv 10) (pa_cons pe_bl pa_nil))))))
  (pss_one (ps_if (pt_cmpR op_ne (pe_callB (call_reprD hgd (u65 hr)) (by rfl) T.b_repr (by decide +kernel) (pa_cons (pe_call (ok_tried T) hr (by rfl) T.g_tried T.F_tried.kp T.B_tried .nil pass0 (pa_cons pe_int (pa_cons (pv 10) pa_nil))) pa_nil)) (pe_callB (call_reprD hgd (u65 hr)) (by rfl) T.b_repr (by decide +kernel) (pa_cons (pv 11) pa_nil)) (nomark _)) (pss_one (ps_ret pe_bl)) pss_nil)))) ?_
  rintro D σ H3 ⟨v, s0, s1, s2, s3, s4, s5, s6, s7, s8, s9, s11, s12, s13, s14, s15, s16, rfl, hv, q⟩
  have W3 : Ow H3 [] H3 [] := Ow.start0
  walk_at "rd"
  rcases hv with ⟨s, rfl, hl, ha⟩ | ⟨⟨ty, hty, kt⟩, dd, it⟩
  · walk_at "rd"
    rename_i p4 H4 np4 kp4 hp4 W4
    refine ⟨p4, _, rfl, .inl ⟨W4.sq 0 rfl, fun t np => ?_⟩⟩
    have W5 := W4.new (o := .tup ((Txt.split s (Str.ofString " ")).map V.str)) np
    generalize upd H4 t (.tup ((Txt.split s (Str.ofString " ")).map V.str)) = H5 at W5 ⊢
    rw [spc] at W5
    have ht5 : H5 t = some (.tup ((wds s).map V.str)) := W5.get 0 rfl
    walk_at "rd"
    cases hf : fits ((wds s).map V.str) with
    | false =>
      refine .inl ⟨words_no hl ha ht5 hf, fun H6 k6 => ?_⟩
      have W6 := W5.call0 k6
      walk_at "rd"
      rename_i p7 H7 np7 sp7 kp7 hp7 W7
      refine .inr ⟨rfl, .inr ⟨.inl ⟨s, rfl, hl, ha, hf⟩, ?_⟩⟩
      walk_at "obj"
      rename_i p8 H8 np8 kp8 hp8 W8
      have a1 := no_data (K := K) (by simp) (.leaf (.str s (by omega) ha)) hp8
      obtain ⟨txt, htxt⟩ := rep_ex a1
      refine ⟨_, _, rfl, a1.1, a1.2.1, a1.2.2.1, a1.2.2.2.1, a1.2.2.2.2, ?_⟩
      rw [htxt]
      have b1 := no_data (K := K) (by simp) (.leaf (.str s (by omega) ha)) (W8.get 1 rfl)
      refine ⟨_, rfl, _, _, rfl, b1.1, b1.2.1, b1.2.2.1, b1.2.2.2.1, b1.2.2.2.2, ?_⟩
      rw [htxt]
      walk_at "rd"
      refine same_txt ?_
      walk_at "rd"
      exact q _ _ _ W8.keep
    | true =>
      refine .inr ⟨words_yes hl ha ht5 hf, fun H6 k6 => ?_⟩
      have W6 := W5.call0 k6
      walk_at "rd"
      rename_i p7 H7 np7 sp7 kp7 hp7 W7
      refine .inr ⟨rfl, .inl ⟨s, rfl, hl, ha, hf, fun t2 nt2 p8 H8 np8 ht8 hp8 kp8 => ?_⟩⟩
      have W8 := W7.call0 kp8
      have a1 := words_data (K := K) hl ha hp8 ht8
      obtain ⟨txt, htxt⟩ := rep_ex a1
      refine ⟨_, _, rfl, a1.1, a1.2.1, a1.2.2.1, a1.2.2.2.1, a1.2.2.2.2, ?_⟩
      rw [htxt]
      have b1 := words_data (K := K) hl ha (W8.get 0 rfl) (W8.get 1 rfl)
      refine ⟨_, rfl, _, _, rfl, b1.1, b1.2.1, b1.2.2.1, b1.2.2.2.1, b1.2.2.2.2, ?_⟩
      rw [htxt]
      walk_at "rd"
      refine same_txt ?_
      walk_at "rd"
      exact q _ _ _ W8.keep
  · refine ⟨_, _, _, _, _, rfl, .ty _, hty _ Keep.refl, kit_ty kt, ?_⟩
    walk_at "rd"
    refine .inl ⟨leaf_not .non, fun H4 k4 => ?_⟩
    have W4 := W3.call0 k4
    walk_at "rd"
    rename_i p5 H5 np5 sp5 kp5 hp5 W5
    have it5 := (it.keep k4).keep kp5
    refine .inr ⟨rfl, .inr ⟨.inr ⟨ty, hty _ (Keep.trans k4 kp5), kt⟩, ?_⟩⟩
    walk_at "obj"
    rename_i p6 H6 np6 kp6 hp6 W6
    have a1 := no_data (K := K) (by simp) (it5.keep kp6) hp6
    obtain ⟨txt, htxt⟩ := rep_ex a1
    refine ⟨_, _, rfl, a1.1, a1.2.1, a1.2.2.1, a1.2.2.2.1, a1.2.2.2.2, ?_⟩
    rw [htxt]
    have b1 := no_data (K := K) (by simp) (it5.keep kp6) (W6.get 1 rfl)
    refine ⟨_, rfl, _, _, rfl, b1.1, b1.2.1, b1.2.2.1, b1.2.2.2.1, b1.2.2.2.2, ?_⟩
    rw [htxt]
    walk_at "rd"
    refine same_txt ?_
    walk_at "rd"
    exact q _ _ _ W6.keep
end
end Y
end X
end K86
namespace K86
namespace X
namespace Y
open PySem PySem.Spec PyProof.Rows L2 FR TL
open C8 (pss_cut pe_gc)
open StX (pe_callS2 pa_star)
section
variable {P : Program} {w : World} {K : PySem.W.Frag} {mg : Str → Option Value} {base : Heap} {A : Ads}
set_option pp.maxSteps 120
theorem cut_sum (s : Str) (k j : Nat) (h : k ≤ j) : (cutS s none (some (k : Int))).length + (cutS s (some (j : Int)) none).length ≤ s.length := by
  rw [len_tl (cutS s none _), len_tl (cutS s (some _) none), tl_cutTo, tl_cutS, HT.sIx_nat, List.length_take, List.length_take, List.length_drop, len_tl s]
  show _ + min (_ - _) _ ≤ _
  omega
theorem _root_.K86.Leaf.keepb {H H' : Hp} {v : V} {b : Addr} {x y z : Int} (h : Leaf H v) (hb : H b = some (bagO x y z)) (k : Keep [b] H H') : Leaf H' v := by
  cases h with
  | str s h1 h2 => exact .str s h1 h2
  | non => exact .non
  | int => exact .int
  | lst e => exact .lst (k _ _ e (by simp; exact ne_of e hb (by intro z; cases z)))
theorem leaf_text {K : PySem.W.Frag} {H : Hp} {v : V} (h : Leaf H v) (h9 : ∀ s, v = .str s → s.length ≤ 90) : TextI K H v := by
  cases h with
  | str s h1 h2 => exact .inl ⟨s, rfl, h9 s rfl, h2⟩
  | non => exact .inr ⟨⟨_, fun _ _ => .base .non, ki_non_str⟩, _, .leaf .non⟩
  | int => exact .inr ⟨⟨_, fun _ _ => .base (.int _), ki_int_str⟩, _, .leaf .int⟩
  | lst e => exact .inr ⟨⟨_, fun _ k => .base (.lst (k _ _ e (by simp))), ki_lst_str⟩, _, .leaf (.lst e)⟩
def R_rest : TS := fun D σ H => ∃ (g b : Addr) (odd : V) (ws : List Str) (n : Nat) (x y z : Int) (s0 s1 s3 s4 s5 s7 s9 s10 s11 s12 s13 s14 s15 s16 : Option V), σ = [s0, s1, some (.ref b), s3, s4, s5, some (.ref g), s7, some odd, s9, s10, s11, s12, s13, s14, s15, s16] ∧ H g = some (.tup (ws.map V.str)) ∧ H b = some (bagO x y z) ∧ BagOk n x y z ∧ n < 900000 ∧ (ws.map (·.length)).sum ≤ 50 ∧ ws.length ≤ 3 ∧ (∀ s ∈ ws, s.length ≤ 50 ∧ Asc s) ∧ Leaf H odd ∧ (∀ s, odd = .str s → s.length ≤ 90) ∧
  ∀ t10 t11 t12 t13 t14 t15 x' y' z' H', Keep [b] H H' → H' b = some (bagO x' y' z') → BagOk (n + 1) x' y' z' → D.nx [s0, s1, some (.ref b), s3, s4, s5, some (.ref g), s7, some odd, s9, t10, t11, t12, t13, t14, t15, s16] H'
theorem blk_rest (T : Txt K mg A) {cdv : Value} {A_ : Around} {outer : List Env} {s_ : Shared} {H : Hp} {E : XK} (hgd : A_.guards = some []) (hr : Room 5 (A_.deeper (envOfC "law" (defScope s_law) s_.heap.objs.size A.f_law cdv))) : PSs (cxOf CX0 P w K mg base N_law "law" (defScope s_law) A.f_law cdv A_ outer s_ H E).nox (List.drop 6 (bdF (nth (bdF (nth (defBody s_law) 0)) 1))) (R_rest) := by
  refine pss_b (pss_cons (ps_set (i := 12) sc_law.nd rfl (.inl rfl) (pe_join pe_str (pv 6)))
  (pss_cons (ps_set (i := 13) sc_law.nd rfl (.inl rfl) (pe_call (ok_take T) (hr.mono (by decide)) (by rfl) T.g_take T.F_take.kp T.B_take .nil pass0 (pa_cons (pv 2) (pa_cons (pe_op op_add (pe_callB call_len_str (by rfl) T.b_len PySem.boot_len (pa_cons (pv 12) pa_nil)) pe_int) pa_nil))))
  (pss_cons (ps_set (i := 14) sc_law.nd rfl (.inl rfl) (pe_lstS (pa_cons (pv 12) (pa_cons (pe_op op_add_str (pe_op op_add_str (pe_slice sl_str (pv 12) po_none (po_some (pv 13))) pe_str) (pe_slice sl_str (pv 12) (po_some (pv 13)) po_none)) (pa_cons (pe_op op_add_str (pe_slice sl_str (pv 12) po_none (po_some (pv 13))) (pe_slice sl_str (pv 12) (po_some (pe_op op_add (pv 13) pe_int)) po_none)) (pa_cons (pe_op op_add_str (pv 12) pe_str) (pa_cons (pv 8) (pa_cons (pv 6) pa_nil))))))))
  (pss_one (ps_for PassesOwn.never rfl (pi_list (pv 14)) (pg_name (i := 10) sc_law.nd rfl (.inl rfl)) (blk_two T hgd hr)))))) ?_
  rintro D σ H3 ⟨g, b, odd, ws, n, x, y, z, s0, s1, s3, s4, s5, s7, s9, s10, s11, s12, s13, s14, s15, s16, rfl, hg, hb, ok, hn, hsum, hl3, hw, lo, lo9, q⟩
  have W3 := Ow.start1 hb
  have htl := join_len (Str.ofString " ") ws
  have hta : Asc (Txt.join (Str.ofString " ") ws) := Asc.join (Asc.of (by decide +kernel)) fun t ht => (hw t ht).2
  have l1 : (Str.ofString " ").length = 1 := by decide +kernel
  have l2 : (Str.ofString "\n").length = 1 := by decide +kernel
  rw [l1] at htl
  walk_at "rd"
  refine ⟨_, _, ws, rfl, rfl, .inr (.inl (.inl hg)), by rw [l1]; exact size_le (by omega), ?_⟩
  generalize Txt.join (Str.ofString " ") ws = tx at htl hta
  have htx : tx.length ≤ 53 := by omega
  clear htl
  walk_at "rd"
  walk_at "take"
  rename_i d17 x17 y17 z17 H17 d170 d171 ok17 kp17 hb17 W17
  have hcl := fun lo hi => cutS_len tx lo hi
  have hca := fun lo hi => hta.cut lo hi
  have hs : ∀ x y : Str, x.length ≤ 200 → y.length ≤ 200 → x.length + y.length ≤ sizeLine := fun x y h1 h2 => size_le (by omega)
  have c1 := hcl none (some d17)
  have c2 := hcl (some d17) none
  have c3 := hcl (some (d17 + 1)) none
  have a1 := hca none (some d17)
  have a2 := hca (some d17) none
  have a3 := hca (some (d17 + 1)) none
  walk_at "rd"
  refine ⟨hs _ _ (by rw [len_app]; omega) (by omega), ?_⟩
  walk_at "rd"
  rename_i pts H18 np18 sp18 kp18 hp18 W18
  have hg18 : H18 g = some (.tup (ws.map V.str)) := W18.keep _ _ hg (by simp; exact ne_of hg hb (by intro z; cases z))
  have lo18 : Leaf H18 odd := lo.keepb hb W18.keep
  have A1 : Asc (Str.ofString " ") := Asc.of (by decide +kernel)
  have A2 : Asc (Str.ofString "\n") := Asc.of (by decide +kernel)
  obtain ⟨dk, hdk⟩ := Int.eq_ofNat_of_zero_le d170
  have cs1 := cut_sum tx dk dk (Nat.le_refl _)
  have cs2 := cut_sum tx dk (dk + 1) (Nat.le_succ _)
  have alt : ∀ v ∈ [V.str tx, V.str ((cutS tx none (some d17) ++ Str.ofString " ") ++ cutS tx (some d17) none), V.str (cutS tx none (some d17) ++ cutS tx (some (d17 + 1)) none), V.str (tx ++ Str.ofString "\n"), odd, V.ref g], TextI K H18 v := fun v hv => by
    simp only [List.mem_cons, List.not_mem_nil, or_false] at hv
    rcases hv with rfl | rfl | rfl | rfl | rfl | rfl
    · exact .inl ⟨_, rfl, by omega, hta⟩
    · exact .inl ⟨_, rfl, by rw [len_app, len_app, hdk]; omega, (a1.app A1).app a2⟩
    · exact .inl ⟨_, rfl, by rw [len_app, hdk]; exact Nat.le_trans cs2 (by omega), a1.app a3⟩
    · exact .inl ⟨_, rfl, by rw [len_app]; omega, hta.app A2⟩
    · exact leaf_text lo18 lo9
    · refine .inr ⟨⟨_, fun _ k => .base (.tup (k _ _ hg18 (by simp))), ki_tup_str⟩, _, .tup hg18 (fun x hx => ?_) (by rw [List.length_map]; omega)⟩
      obtain ⟨s, hs, rfl⟩ := List.mem_map.mp hx
      exact .str s (Nat.le_trans (hw s hs).1 (by decide)) (hw s hs).2
  clear c1 c2 c3 a1 a2 a3 cs1 cs2 hcl hca
  refine ⟨⟨_, W18.sq 0 rfl⟩, ?_⟩
  generalize [V.str tx, V.str ((cutS tx none (some d17) ++ Str.ofString " ") ++ cutS tx (some d17) none), V.str (cutS tx none (some d17) ++ cutS tx (some (d17 + 1)) none), V.str (tx ++ Str.ofString "\n"), odd, V.ref g] = Lt at alt W18
  refine for_li (a := pts) (xs := Lt) (fun done σ H' => (∃ u10 u11 u15, σ = [s0, s1, some (.ref b), s3, s4, s5, some (.ref g), s7, some odd, s9, u10, u11, some (.str tx), some (.int d17), some (.ref pts), u15, s16]) ∧ Keep [] H18 H') ⟨⟨_, _, _, rfl⟩, Keep.refl⟩ ?_ ?_ ?_
  · rintro d2 r2 σ H4 e2 ⟨_, k4⟩
    exact (W18.call0 k4).sq 0 rfl
  · rintro d2 v r2 σ H4 e2 ⟨⟨u10, u11, u15, rfl⟩, k4⟩
    have hv := alt v (by rw [e2]; simp)
    exact ⟨v, _, _, _, _, _, _, _, _, _, _, _, _, _, _, _, _, rfl, hv.keep k4, fun u t H' k => ⟨⟨_, _, _, rfl⟩, Keep.trans k4 k⟩⟩
  · rintro σ H4 ⟨⟨u10, u11, u15, rfl⟩, k4⟩
    have W4 := W18.call0 k4
    exact q _ _ _ _ _ _ _ _ _ _ W4.keep (W4.get 1 rfl) ok17
end
end Y
end X
end K86
namespace K86
namespace X
namespace Y
open PySem PySem.Spec PyProof.Rows L2 FR TL
open C8 (pss_cut pe_gc)
open StX (pe_callS2 pa_star)
section
variable {P : Program} {w : World} {K : PySem.W.Frag} {mg : Str → Option Value} {base : Heap} {A : Ads}
set_option pp.maxSteps 120
theorem ok_law (T : Txt K mg A) : FnG P w K mg base CX0 6 A.f_law (spLaw K) := by
  refine okG0 T.F_law sc_law T.B_law (fun vs H Q E h => ?_) (fun cdv A_ outer s_ H vs Q E hgd hr h => ?_)
  · obtain ⟨a, ns, rfl, _⟩ := h
    rfl
  · obtain ⟨a, zs, rfl, hS, hlen, q⟩ := h
    have W0 : Ow H [] H [] := Ow.start0
    refine ⟨_, (pss_cons (ps_for PassesOwn.never rfl (pi_range1 (by rfl) T.b_range (pa_cons (pe_callB (call_max2 rfl) (by rfl) T.b_max (by decide +kernel) (pa_cons pe_int (pa_cons (pe_callB (call_min2 rfl) (by rfl) T.b_min (by decide +kernel) (pa_cons pe_int (pa_cons (pe_callB call_len_seq (by rfl) T.b_len PySem.boot_len (pa_cons (pv 0) pa_nil)) pa_nil))) pa_nil))) pa_nil)) (pg_name (i := 1) sc_law.nd rfl (.inl rfl)) (pss_cons (ps_set (i := 2) sc_law.nd rfl (.inr rfl) (pe_call (ok_bag T) (hr.mono (by decide)) (by rfl) T.g_bag T.F_bag.kp T.B_bag .nil pass0 (pa_cons (pe_call (ok_cell T) (hr.mono (by decide)) (by rfl) T.g_cell T.F_cell.kp T.B_cell .nil pass0 (pa_cons (pv 0) (pa_cons (pv 1) pa_nil))) pa_nil)))
  (pss_one (ps_for PassesOwn.never rfl (pi_list (pe_lstS (pa_cons pe_str (pa_cons pe_str (pa_cons pe_str (pa_cons pe_str (pa_cons pe_str (pa_cons pe_str (pa_cons pe_str pa_nil))))))))) (pg_name (i := 3) sc_law.nd rfl (.inl rfl)) (pss_cons (ps_set (i := 4) sc_law.nd rfl (.inl rfl) (pe_op op_add_str pe_str (pe_join pe_str (pe_lc (own := [("_law_turn", 16)]) (g := gName 16) rfl sc_law.nd (pi_range1 (by rfl) T.b_range (pa_cons (pe_call (ok_take T) (hr.mono (by decide)) (by rfl) T.g_take T.F_take.kp T.B_take .nil pass0 (pa_cons (pv 2) (pa_cons pe_int pa_nil))) pa_nil)) (blkOk_by (own := [("_law_turn", 16)]) (N := N_law) (sc := defScope s_law) (by decide +kernel)) (fun _ _ _ _ _ => pg_name (i := 16) sc_law.nd rfl (Or.inl rfl)) (fun _ _ _ _ _ => pts_nil) (fun _ _ _ _ _ => (pe_call (ok_name T) (hr.mono (by decide)) (by rfl) T.g_name T.F_name.kp T.B_name .nil pass0 (pa_cons (pv 2) pa_nil)))))))
  (pss_cons (ps_set (i := 5) sc_law.nd rfl (.inl rfl) (pe_ix ix_list (pe_lstS (pa_cons (pe_call (ok_name T) (hr.mono (by decide)) (by rfl) T.g_name T.F_name.kp T.B_name .nil pass0 (pa_cons (pv 2) pa_nil)) (pa_cons pe_str (pa_cons pe_str pa_nil)))) (pe_call (ok_take T) (hr.mono (by decide)) (by rfl) T.g_take T.F_take.kp T.B_take .nil pass0 (pa_cons (pv 2) (pa_cons pe_int pa_nil))) (fun _ _ => rfl)))
  (pss_cut (ps_set (i := 6) sc_law.nd rfl (.inl rfl) (pe_ifExp (pt_cmpR op_in_seq (pv 3) (pe_lstS (pa_cons pe_str (pa_cons pe_str pa_nil))) rfl) (pe_tupN (pa_cons (pv 3) (pa_cons (pv 5) (pa_cons (pv 4) pa_nil)))) (pe_tupN (pa_cons (pv 3) (pa_cons (pv 4) pa_nil)))))
  (pss_cons (ps_par (i := 7) (j := 8) (by rfl) sc_law.nd rfl rfl (by decide) rfl rfl (pa_cons (pe_call (ok_take T) (hr.mono (by decide)) (by rfl) T.g_take T.F_take.kp T.B_take .nil pass0 (pa_cons (pv 2) (pa_cons (pe_callB call_len_seq (by rfl) T.b_len PySem.boot_len (pa_cons (pv 6) pa_nil)) pa_nil))) (pa_cons (pe_ix ix_list (pe_lstS (pa_cons pe_non (pa_cons pe_int (pa_cons pe_str (pa_cons pe_str (pa_cons pe_str (pa_cons pe_str (pa_cons pe_str (pa_cons (pe_lstS pa_nil) (pa_cons pe_str (pa_cons pe_str pa_nil))))))))))) (pe_call (ok_take T) (hr.mono (by decide)) (by rfl) T.g_take T.F_take.kp T.B_take .nil pass0 (pa_cons (pv 2) (pa_cons pe_int pa_nil))) (fun _ _ => rfl)) pa_nil)) (by rfl))
  (pss_cut (ps_set (i := 9) sc_law.nd rfl (.inl rfl) (pe_lstS (pa_cons (pv 6) (pa_cons (pe_op op_catK (pe_op op_catK (pe_slice sl_tupK (pv 6) po_none (po_some (pv 7))) (pe_tupN (pa_cons (pv 8) pa_nil))) (pe_slice sl_tupK (pv 6) (po_some (pe_op op_add (pv 7) pe_int)) po_none)) (pa_cons (pe_op op_catK (pe_slice sl_tupK (pv 6) po_none (po_some (pv 7))) (pe_slice sl_tupK (pv 6) (po_some (pe_op op_add (pv 7) pe_int)) po_none)) (pa_cons (pe_op op_catK (pv 6) (pe_tupN (pa_cons (pv 8) pa_nil))) (pa_cons (pe_callTy call_lofN (by rfl) T.b_list (by decide +kernel) (pa_cons (pv 6) pa_nil)) (pa_cons (pv 8) pa_nil))))))))
  (pss_cons (ps_for PassesOwn.never rfl (pi_list (pv 9)) (pg_name (i := 10) sc_law.nd rfl (.inl rfl)) (blk_one T hgd hr))
  (blk_rest T hgd hr)))))))))))
  (pss_one (ps_ret pe_bl))), ?_⟩
    walk_at "rd"
    refine for_rg (fun i σ H' => (∃ y1 y2 y3 y4 y5 y6 y7 y8 y9 y10 y11 y12 y13 y14 y15 y16, σ = [some (.ref a), y1, y2, y3, y4, y5, y6, y7, y8, y9, y10, y11, y12, y13, y14, y15, y16]) ∧ Ow H [] H' []) ⟨⟨none, none, none, none, none, none, none, none, none, none, none, none, none, none, none, none, rfl⟩, W0⟩ ?_ ?_
    · rintro i σ H1 hi ⟨⟨y1, y2, y3, y4, y5, y6, y7, y8, y9, y10, y11, y12, y13, y14, y15, y16, rfl⟩, W1⟩
      have hi' : i < 63 := by
        refine Nat.lt_of_lt_of_le hi ?_
        rw [List.length_map]
        omega
      walk_at "rd"
      refine ⟨a, zs, _, rfl, W1.seq hS (by simp), by omega, by omega, fun n => ?_⟩
      walk_at "rd"
      intro x y z ok
      walk_at "rd"
      rename_i b H2 np2 kp2 hp2 W2 p3 H3 np3 sp3 kp3 hp3 W3
      refine ⟨⟨_, W3.sq 0 rfl⟩, ?_⟩
      refine for_li (a := p3) (xs := aims.map V.str) (fun done σ H' => (∃ y3 y4 y5 y6 y7 y8 y9 y10 y11 y12 y13 y14 y15 y16, σ = [some (.ref a), some (.int (0 + i)), some (.ref b), y3, y4, y5, y6, y7, y8, y9, y10, y11, y12, y13, y14, y15, y16]) ∧ Turn p3 b H (100 * done.length) H') ⟨⟨_, _, _, _, _, _, _, _, _, _, _, _, _, _, rfl⟩, _, _, _, ok, W3⟩ ?_ ?_ ?_
      · rintro done rest σ H4 e ⟨_, x4, y4, z4, _, W4⟩
        exact W4.sq 0 rfl
      · rintro done v rest σ H4 e ⟨⟨y3, y4, y5, y6, y7, y8, y9, y10, y11, y12, y13, y14, y15, y16, rfl⟩, x4, yy4, z4, ok4, W4⟩
        have hd : done.length ≤ 6 := by
          have := congrArg List.length e
          rw [List.length_append, List.length_cons, List.length_map] at this
          have h7 : aims.length = 7 := rfl
          omega
        obtain ⟨wd, hwd, rfl⟩ := List.mem_map.mp (show v ∈ aims.map V.str by rw [e]; simp)
        have hw5 := aims_ok wd hwd
        clear W3
        walk_at "rd"
        walk_at "take"
        rename_i d5 x5 yy5 z5 H5 d50 d51 ok5 kp5 hb5 W5
        walk_at "rd"
        intro D hD
        refine lc_rg (fun j H' => ∃ (ws : List Str) (x y z : Int), ws.length = j ∧ (∀ t ∈ ws, t.length ≤ 8 ∧ Asc t) ∧ BagOk (100 * done.length + 1 + 9 * j) x y z ∧ Ow H [] H' [(D, .lst (ws.map V.str)), (p3, .lst (aims.map V.str)), (b, bagO x y z)]) ⟨[], _, _, _, rfl, by simp, ok5, W5.new hD⟩ ?_ ?_
        · rintro j H7 hj ⟨ws, x7, y7', z7, hl, hws, ok7, W7⟩
          have hj' : j < 4 := by omega
          walk_at "rd"
          refine ⟨b, _, _, _, _, rfl, W7.get 2 rfl, ok7, by omega, fun t x8 y8' z8 H8 htl hta ok8 kp8 hb8 => ?_⟩
          have W8 := W7.any1 2 rfl kp8 hb8
          walk_at "rd"
          refine ⟨_, W8.get 0 rfl, size_ok (by rw [List.length_map]; omega), ws ++ [t], x8, y8', z8, by rw [List.length_append, hl]; rfl, fun u hu => ?_, ok8.mono (by omega), ?_⟩
          · rcases List.mem_append.mp hu with h | h
            · exact hws u h
            · rw [List.mem_singleton.mp h]; exact ⟨htl, hta⟩
          · rw [List.map_append]
            exact W8.set 0 rfl
        · rintro H7 ⟨ws, x7, y7', z7, hl, hws, ok7, W7⟩
          have hwl : ws.length ≤ 4 := by omega
          have hsum : (ws.map (·.length)).sum ≤ 4 * 8 := Nat.le_trans (sum_le fun t ht => (hws t ht).1) (Nat.mul_le_mul_right 8 hwl)
          have h1 : (Str.ofString "/").length = 1 := by decide +kernel
          have h1a : Asc (Str.ofString "/") := Asc.of (by decide +kernel)
          have hjl := join_len (Str.ofString "/") ws
          have hja : Asc (Txt.join (Str.ofString "/") ws) := Asc.join h1a fun t ht => (hws t ht).2
          rw [h1] at hjl
          have ok7' : BagOk (100 * done.length + 40) x7 y7' z7 := ok7.mono (by omega)
          clear ok7
          walk_at "rd"
          refine ⟨_, _, ws, rfl, rfl, .inl (W7.sq 0 rfl), by rw [h1]; exact size_le (by omega), ?_⟩
          have W7' := W7.tail
          clear W7
          generalize Txt.join (Str.ofString "/") ws = jn at hjl hja
          walk_at "rd"
          have hfl : (Str.ofString "/" ++ jn).length ≤ 37 := by rw [len_app, h1]; omega
          have hfa : Asc (Str.ofString "/" ++ jn) := h1a.app hja
          generalize Str.ofString "/" ++ jn = pa at hfl hfa ⊢
          walk_at "rd"
          refine ⟨b, _, _, _, _, rfl, W7'.get 1 rfl, ok7', by omega, fun t x8 y8' z8 H8 htl hta ok8 kp8 hb8 => ?_⟩
          have W8 := W7'.any1 1 rfl kp8 hb8
          have ok8' : BagOk (100 * done.length + 49) x8 y8' z8 := ok8.mono (by omega)
          clear ok8 ok7' W7'
          walk_at "rd"
          rename_i p9 H9 np9 sp9 kp9 hp9 W9
          walk_at "take"
          rename_i d10 x10 y10' z10 H10 d100 d101 ok10 kp10 hb10 W10
          obtain ⟨u, hu, hm⟩ := atI_in (xs := [V.str t, V.str (Str.ofString "root"), V.str (Str.ofString "ann")]) d100 d101
          refine ⟨_, _, _, u, rfl, rfl, W10.sq 0 rfl, hu, ?_⟩
          obtain ⟨us, rfl, hul, hua⟩ : ∃ us : Str, u = .str us ∧ us.length ≤ 8 ∧ Asc us := by
            simp only [List.mem_cons, List.not_mem_nil, or_false] at hm
            rcases hm with rfl | rfl | rfl
            · exact ⟨t, rfl, htl, hta⟩
            · exact ⟨_, rfl, by decide +kernel, Asc.of (by decide +kernel)⟩
            · exact ⟨_, rfl, by decide +kernel, Asc.of (by decide +kernel)⟩
          have W10' := W10.tail
          clear W10 W9 W8 hu hm
          walk_at "rd"
          refine ⟨fun σ' H' => ∃ g, σ' = [some (.ref a), some (.int (0 + i)), some (.ref b), some (.str wd), some (.str pa), some (.str us), some (.ref g), y7, y8, y9, y10, y11, y12, y13, y14, y15, y16] ∧ GRow g p3 b H (100 * done.length + 50) H', ?_, fun σ' H' h => ?_⟩
          · walk_at "rd"
            --BEG
            refine ⟨rfl, rfl, _, rfl, ?_⟩
            refine ifQ (p := wd ∈ users) (in_strs wd users) (fun c => ?_) (fun c => ?_)
            · walk_at "rd"
              rename_i g H11 np11 kp11 hp11 W11
              refine ⟨[wd, us, pa], _, _, _, ⟨by show 2 ≤ 3; decide, by show 3 ≤ 3; decide⟩, ?_, fun s hs => ?_, ok10.mono (by omega), W11.sel (.cons₂ _ (.cons _ (.cons₂ _ (.cons₂ _ .slnil))))⟩
              · show wd.length + (us.length + (pa.length + 0)) ≤ 50
                have := hw5.1
                omega
              · simp only [List.mem_cons, List.not_mem_nil, or_false] at hs
                rcases hs with rfl | rfl | rfl
                · exact ⟨by have := hw5.1; omega, Asc.of hw5.2⟩
                · exact ⟨by omega, hua⟩
                · exact ⟨by omega, hfa⟩
            · walk_at "rd"
              rename_i g H11 np11 kp11 hp11 W11
              refine ⟨[wd, pa], _, _, _, ⟨by show 2 ≤ 2; decide, by show 2 ≤ 3; decide⟩, ?_, fun s hs => ?_, ok10.mono (by omega), W11.sel (.cons₂ _ (.cons _ (.cons₂ _ (.cons₂ _ .slnil))))⟩
              · show wd.length + (pa.length + 0) ≤ 50
                have := hw5.1
                omega
              · simp only [List.mem_cons, List.not_mem_nil, or_false] at hs
                rcases hs with rfl | rfl
                · exact ⟨by have := hw5.1; omega, Asc.of hw5.2⟩
                · exact ⟨by omega, hfa⟩
            --END
          · obtain ⟨g, rfl, ws, x11, y11', z11, ⟨hl2, hl3⟩, hsum, hw, ok11, W11⟩ := h
            clear W10' ok10 W2 W5 hjl hja
            walk_at "rd"
            refine ⟨_, _, rfl, .inr (W11.sqT 0 rfl), ?_⟩
            have hlm : (ws.map V.str).length = ws.length := List.length_map _
            refine ⟨b, _, _, _, _, _, rfl, W11.get 2 rfl, ok11, by omega, by omega, by omega, fun at_ x12 y12' z12 H12 d120 d121 ok12 kp12 hb12 => ?_⟩
            have W12 := W11.any1 2 rfl kp12 hb12
            walk_at "rd"
            rename_i pl H13 np13 sp13 kp13 hp13 W13 p14 H14 np14 sp14 kp14 hp14 W14
            walk_at "take"
            rename_i d15 x15 y15' z15 H15 d150 d151 ok15 kp15 hb15 W15
            obtain ⟨odd, ho, hm⟩ := atI_in (xs := [V.non, V.int 7, V.str (Str.ofString ""), V.str (Str.ofString "root"), V.str (Str.ofString "/"), V.str (Str.ofString "Read"), V.str (Str.ofString "/A"), V.ref pl, V.str (Str.ofString "a b"), V.str (Str.ofString "led")]) d150 d151
            have lo : Leaf H15 odd ∧ ∀ s, odd = .str s → s.length ≤ 90 := by
              simp only [List.mem_cons, List.not_mem_nil, or_false] at hm
              rcases hm with rfl | rfl | rfl | rfl | rfl | rfl | rfl | rfl | rfl | rfl
              · exact ⟨.non, fun s e => by cases e⟩
              · exact ⟨.int, fun s e => by cases e⟩
              · exact ⟨.str _ (by decide +kernel) (Asc.of (by decide +kernel)), fun s e => by cases e; decide +kernel⟩
              · exact ⟨.str _ (by decide +kernel) (Asc.of (by decide +kernel)), fun s e => by cases e; decide +kernel⟩
              · exact ⟨.str _ (by decide +kernel) (Asc.of (by decide +kernel)), fun s e => by cases e; decide +kernel⟩
              · exact ⟨.str _ (by decide +kernel) (Asc.of (by decide +kernel)), fun s e => by cases e; decide +kernel⟩
              · exact ⟨.str _ (by decide +kernel) (Asc.of (by decide +kernel)), fun s e => by cases e; decide +kernel⟩
              · exact ⟨.lst (W15.get 1 rfl), fun s e => by cases e⟩
              · exact ⟨.str _ (by decide +kernel) (Asc.of (by decide +kernel)), fun s e => by cases e; decide +kernel⟩
              · exact ⟨.str _ (by decide +kernel) (Asc.of (by decide +kernel)), fun s e => by cases e; decide +kernel⟩
            refine ⟨_, _, _, odd, rfl, rfl, W15.sq 0 rfl, ho, ?_⟩
            have W15' := W15.tail.tail
            have ok15' : BagOk (100 * done.length + 52) x15 y15' z15 := ok15
            clear W15 W14 W13 W12 W11 ho hm ok15
            walk_at "rd"
            refine ⟨fun σ' H' => ∃ (Lth : List V) (pth : Addr), σ' = [some (.ref a), some (.int (0 + i)), some (.ref b), some (.str wd), some (.str pa), some (.str us), some (.ref g), some (.int at_), some odd, some (.ref pth), y10, y11, y12, y13, y14, y15, y16] ∧ Things Lth odd ws pth g p3 b H (100 * done.length + 52) H', ?_, fun σ' H' h => ?_⟩
            · walk_at "rd"
              --BEG
              have hz7 : 7 ≤ sizeLine := size_le (by decide)
              have hcl := fun lo hi => cutV_length (ws.map V.str) lo hi
              refine ⟨g, _, rfl, W15'.get 0 rfl, fun pa1 Ha ka ea => ?_⟩
              have Wa := W15'.call0 ka
              walk_at "rd"
              rename_i pb1 Hb npb kpb hpb Wb
              refine ⟨pa1, pb1, _, _, rfl, rfl, kpb _ _ ea (by simp), hpb, Nat.le_trans (Nat.add_le_add_right (hcl _ _) 1) (Nat.le_trans (by omega) hz7), fun pc1 Hc kc ec => ?_⟩
              have Wc := (Wb.tail).call0 kc
              walk_at "rd"
              refine ⟨g, _, rfl, Wc.get 0 rfl, fun pd1 Hd kd ed => ?_⟩
              have Wd := Wc.call0 kd
              walk_at "rd"
              refine ⟨pc1, pd1, _, _, rfl, rfl, kd _ _ ec (by simp), ed, by rw [List.length_append]; exact Nat.le_trans (Nat.add_le_add (Nat.add_le_add_right (hcl _ _) 1) (hcl _ _)) (Nat.le_trans (by omega) hz7), fun t1 He ke et1 => ?_⟩
              have We := Wd.call0 ke
              walk_at "rd"
              refine ⟨g, _, rfl, We.get 0 rfl, fun pf1 Hf kf ef => ?_⟩
              have Wf := We.call0 kf
              walk_at "rd"
              refine ⟨g, _, rfl, Wf.get 0 rfl, fun pg1 Hg kg eg => ?_⟩
              have Wg := Wf.call0 kg
              walk_at "rd"
              refine ⟨pf1, pg1, _, _, rfl, rfl, kg _ _ ef (by simp), eg, Nat.le_trans (Nat.add_le_add (hcl _ _) (hcl _ _)) (Nat.le_trans (by omega) hz7), fun t2 Hh kh et2 => ?_⟩
              have Wh := Wg.call0 kh
              walk_at "rd"
              rename_i pi1 Hi npi kpi hpi Wi
              refine ⟨g, pi1, _, _, rfl, rfl, Wi.get 1 rfl, hpi, Nat.le_trans (Nat.add_le_add_right (Nat.le_of_eq hlm) 1) (Nat.le_trans (by omega) hz7), fun t3 Hj kj et3 => ?_⟩
              have Wj := (Wi.tail).call0 kj
              walk_at "rd"
              refine ⟨g, _, rfl, .inr (Wj.sqT 0 rfl), ?_⟩
              walk_at "obj"
              rename_i t4 Hk npk kpk hpk Wk
              walk_at "rd"
              rename_i pth Hl npl spl kpl hpl Wl
              have k15 : Keep [] H15 Hl := Keep.trans ka (Keep.trans kpb (Keep.trans kc (Keep.trans kd (Keep.trans ke (Keep.trans kf (Keep.trans kg (Keep.trans kh (Keep.trans kpi (Keep.trans kj (Keep.trans kpk kpl))))))))))
              have lo2 : Leaf Hl odd := lo.1.keep k15
              have lw : ∀ x ∈ ws.map V.str, Leaf Hl x := fun x hx => by
                obtain ⟨s, hs, rfl⟩ := List.mem_map.mp hx
                exact .str s (Nat.le_trans (hw s hs).1 (by decide)) (hw s hs).2
              have i1 : ∃ d, Item Hl (.ref t1) d := ⟨_, .tup (Keep.trans kf (Keep.trans kg (Keep.trans kh (Keep.trans kpi (Keep.trans kj (Keep.trans kpk kpl))))) _ _ et1 (by simp)) (fun x hx => by
                rcases List.mem_append.mp hx with hx | hx
                · rcases List.mem_append.mp hx with hx | hx
                  · exact lw x (cutV_mem hx)
                  · rw [List.mem_singleton.mp hx]; exact lo2
                · exact lw x (cutV_mem hx)) (by
                rw [List.length_append, List.length_append]
                exact Nat.le_trans (Nat.add_le_add (Nat.add_le_add_right (hcl _ _) 1) (hcl _ _)) (by omega))⟩
              have i2 : ∃ d, Item Hl (.ref t2) d := ⟨_, .tup (Keep.trans kpi (Keep.trans kj (Keep.trans kpk kpl)) _ _ et2 (by simp)) (fun x hx => by
                rcases List.mem_append.mp hx with hx | hx
                · exact lw x (cutV_mem hx)
                · exact lw x (cutV_mem hx)) (by
                rw [List.length_append]
                exact Nat.le_trans (Nat.add_le_add (hcl _ _) (hcl _ _)) (by omega))⟩
              have i3 : ∃ d, Item Hl (.ref t3) d := ⟨_, .tup (Keep.trans kpk kpl _ _ et3 (by simp)) (fun x hx => by
                rcases List.mem_append.mp hx with hx | hx
                · exact lw x hx
                · rw [List.mem_singleton.mp hx]; exact lo2) (by
                rw [List.length_append, hlm]
                show ws.length + 1 ≤ 9
                omega)⟩
              have i4 : ∃ d, Item Hl (.ref t4) d := ⟨_, .lst (Wl.get 1 rfl) lw (by rw [hlm]; omega)⟩
              have i0 : ∃ d, Item Hl (.ref g) d := ⟨_, .tup (Wl.get 2 rfl) lw (by rw [hlm]; omega)⟩
              have all : ∀ v ∈ [V.ref g, V.ref t1, V.ref t2, V.ref t3, V.ref t4, odd], ∃ d, Item Hl v d := fun v hv => by
                simp only [List.mem_cons, List.not_mem_nil, or_false] at hv
                rcases hv with rfl | rfl | rfl | rfl | rfl | rfl
                · exact i0
                · exact i1
                · exact i2
                · exact i3
                · exact i4
                · exact ⟨_, .leaf lo2⟩
              have Vl : Ow H [] Hl [(pth, .lst [V.ref g, V.ref t1, V.ref t2, V.ref t3, V.ref t4, odd]), (g, .tup (ws.map V.str)), (p3, .lst (aims.map V.str)), (b, bagO x15 y15' z15)] := Wl.sel (.cons₂ _ (.cons _ (.cons₂ _ (.cons₂ _ (.cons₂ _ .slnil)))))
              exact ⟨_, pth, rfl, ⟨_, _, _, ok15', Vl⟩, all, lo2⟩
              --END
            · obtain ⟨Lth, pth, rfl, ⟨x16, y16', z16, ok16, W16⟩, all, lo2⟩ := h
              clear W15'
              walk_at "rd"
              refine ⟨⟨_, W16.sq 0 rfl⟩, ?_⟩
              refine for_li (a := pth) (xs := Lth) (fun done2 σ H3 => (∃ u10 u11 u12 u13 u14 u15 u16, σ = [some (.ref a), some (.int (0 + i)), some (.ref b), some (.str wd), some (.str pa), some (.str us), some (.ref g), some (.int at_), some odd, some (.ref pth), u10, u11, u12, u13, u14, u15, u16]) ∧ Keep [] H' H3) ⟨⟨_, _, _, _, _, _, _, rfl⟩, Keep.refl⟩ ?_ ?_ ?_
              · rintro d2 r2 σ H3 e2 ⟨_, k3⟩
                exact (W16.call0 k3).sq 0 rfl
              · rintro d2 v r2 σ H3 e2 ⟨⟨u10, u11, u12, u13, u14, u15, u16, rfl⟩, k3⟩
                obtain ⟨dd, it⟩ := all v (by rw [e2]; simp)
                exact ⟨v, _, _, _, _, _, _, _, _, _, _, _, _, _, _, _, _, rfl, ⟨dd, it.keep k3⟩, fun u H4 k => ⟨⟨_, _, _, _, _, _, _, rfl⟩, Keep.trans k3 k⟩⟩
              · rintro σ H3 ⟨⟨u10, u11, u12, u13, u14, u15, u16, rfl⟩, k3⟩
                have W3 := W16.call0 k3
                refine ⟨g, b, odd, ws, _, _, _, _, _, _, _, _, _, _, _, _, _, _, _, _, _, _, rfl, W3.get 1 rfl, W3.get 3 rfl, ok16, by omega, hsum, hl3, hw, lo2.keep k3, lo.2, fun t10 t11 t12 t13 t14 t15 x18 y18 z18 H18 k18 hb18 ok18 => ?_⟩
                have W18 := W3.any1 3 rfl k18 hb18
                refine ⟨⟨_, _, _, _, _, _, _, _, _, _, _, _, _, _, rfl⟩, _, _, _, ok18.mono (by rw [List.length_append]; show _ ≤ 100 * (done.length + 1); omega), W18.sel (.cons _ (.cons _ (.cons₂ _ (.cons₂ _ .slnil))))⟩
      · rintro σ H4 ⟨⟨y3, y4, y5, y6, y7, y8, y9, y10, y11, y12, y13, y14, y15, y16, rfl⟩, x4, yy4, z4, ok4, W4⟩
        walk_at "rd"
        first | exact ⟨⟨_, _, _, _, _, _, _, _, _, _, _, _, _, _, _, _, rfl⟩, W4.drop⟩ | exact W4.drop
    · rintro σ H1 ⟨⟨y1, y2, y3, y4, y5, y6, y7, y8, y9, y10, y11, y12, y13, y14, y15, y16, rfl⟩, W1⟩
      walk_at "rd"
      exact q _
end
end Y
open PySem PySem.Spec PyProof.Rows L2 FR TL in
theorem ok_law {P : Program} {w : World} {K : PySem.W.Frag} {mg : Str → Option Value} {base : Heap} {A : Ads} (T : Txt K mg A) : FnG P w K mg base CX0 6 A.f_law (spLaw K) := Y.ok_law T
end X
end K86
namespace K86
open X
open PySem PySem.Spec PyProof.Rows L2 FR TL
theorem all_mk {P : Program} {w : World} {K : PySem.W.Frag} {h : Heap} {mg : Str → Option Value} {fa : Addr} (X : K.In h) (G : h.Ns mainGlobals mg) (hfa : mg "law" = some (.ref fa))
    {f0 : Addr} {od0 an0 : Option Addr} {sl0 : Array (Option Value)} {oc0 kV0 dc0 pm0 cd0 ct0 : Value}
    {f1 : Addr} {od1 an1 : Option Addr} {sl1 : Array (Option Value)} {oc1 kV1 dc1 pm1 cd1 ct1 : Value}
    {f2 : Addr} {od2 an2 : Option Addr} {sl2 : Array (Option Value)} {oc2 kV2 dc2 pm2 cd2 ct2 : Value}
    {f3 : Addr} {od3 an3 : Option Addr} {sl3 : Array (Option Value)} {oc3 dc3 pm3 cd3 ct3 : Value}
    {D3 : Addr} {t3_0 : Tok}
    {f4 : Addr} {od4 an4 : Option Addr} {sl4 : Array (Option Value)} {oc4 kV4 dc4 pm4 cd4 ct4 : Value}
    {f5 : Addr} {od5 an5 : Option Addr} {sl5 : Array (Option Value)} {oc5 kV5 dc5 pm5 cd5 ct5 : Value}
    {f6 : Addr} {od6 an6 : Option Addr} {sl6 : Array (Option Value)} {oc6 kV6 dc6 pm6 cd6 ct6 : Value}
    {f7 : Addr} {od7 an7 : Option Addr} {sl7 : Array (Option Value)} {oc7 kV7 dc7 pm7 cd7 ct7 : Value}
    {f8 : Addr} {od8 an8 : Option Addr} {sl8 : Array (Option Value)} {oc8 kV8 dc8 pm8 cd8 ct8 : Value}
    {f9 : Addr} {od9 an9 : Option Addr} {sl9 : Array (Option Value)} {oc9 kV9 dc9 pm9 cd9 ct9 : Value}
    {f10 : Addr} {od10 an10 : Option Addr} {sl10 : Array (Option Value)} {oc10 kV10 dc10 pm10 cd10 ct10 : Value}
    {f11 : Addr} {od11 an11 : Option Addr} {sl11 : Array (Option Value)} {oc11 kV11 dc11 pm11 cd11 ct11 : Value}
    {f12 : Addr} {od12 an12 : Option Addr} {sl12 : Array (Option Value)} {oc12 kV12 dc12 pm12 cd12 ct12 : Value}
    {f13 : Addr} {od13 an13 : Option Addr} {sl13 : Array (Option Value)} {oc13 kV13 dc13 pm13 cd13 ct13 : Value}
    {f14 : Addr} {od14 an14 : Option Addr} {sl14 : Array (Option Value)} {oc14 kV14 dc14 pm14 cd14 ct14 : Value}
    {f15 : Addr} {od15 an15 : Option Addr} {sl15 : Array (Option Value)} {oc15 kV15 dc15 pm15 cd15 ct15 : Value}
    {K0 : Addr}
    {K1 : Addr}
    {K2 : Addr}
    {K3 : Addr}
    {J2 : Addr} {nm2 qu2 : Str} {N2 bs2 sn2 sub2 : _} {ab2 col2 dd2 m02 m12 m22 m32 m52 : _} {ioc2 idc2 ipm2 icd2 ict2 : Value} {iod2 ian2 : Option Addr} {isl2 : Array (Option Value)} {pa2 pb2 pc2 pd2 pe2 pf2 : Pos}
    {J3 : Addr} {nm3 qu3 : Str} {N3 bs3 sn3 sub3 : _} {ab3 col3 dd3 m03 m13 m23 m33 m53 : _} {ioc3 idc3 ipm3 icd3 ict3 : Value} {iod3 ian3 : Option Addr} {isl3 : Array (Option Value)} {pa3 pb3 pc3 pd3 pe3 pf3 : Pos}
    {tc0 : Tok}
    {KD1 : Addr} {kto1 : Obj} {kti1 : Array Value} {ktn1 : Nat}
    {KD2 : Addr} {kto2 : Obj} {kti2 : Array Value} {ktn2 : Nat}
    (a0 : PySem.W.nsIn K mainGlobals "is_name" = some (some (.ref f0)))
    (l0 : K.lookup f0 = some ⟨oc0, od0, .func (PySem.W.fnOf "is_name" "is_name" (defArgs s_is_name) (defBody s_is_name) (defScope s_is_name) .none kV0 dc0 pm0 an0 cd0 ct0), sl0⟩)
    (c0 : PySem.W.codeIn K cd0 "is_name" = true) (k0 : PySem.W.keepIn K (.ref f0) = true)
    (a1 : PySem.W.nsIn K mainGlobals "is_user_name" = some (some (.ref f1)))
    (l1 : K.lookup f1 = some ⟨oc1, od1, .func (PySem.W.fnOf "is_user_name" "is_user_name" (defArgs s_is_user_name) (defBody s_is_user_name) (defScope s_is_user_name) .none kV1 dc1 pm1 an1 cd1 ct1), sl1⟩)
    (c1 : PySem.W.codeIn K cd1 "is_user_name" = true) (k1 : PySem.W.keepIn K (.ref f1) = true)
    (a2 : PySem.W.nsIn K mainGlobals "is_path" = some (some (.ref f2)))
    (l2 : K.lookup f2 = some ⟨oc2, od2, .func (PySem.W.fnOf "is_path" "is_path" (defArgs s_is_path) (defBody s_is_path) (defScope s_is_path) .none kV2 dc2 pm2 an2 cd2 ct2), sl2⟩)
    (c2 : PySem.W.codeIn K cd2 "is_path" = true) (k2 : PySem.W.keepIn K (.ref f2) = true)
    (a3 : PySem.W.nsIn K mainGlobals "split_words" = some (some (.ref f3)))
    (l3 : K.lookup f3 = some ⟨oc3, od3, .func (PySem.W.fnOf "split_words" "split_words" (defArgs s_split_words) (defBody s_split_words) (defScope s_split_words) .none (.ref D3) dc3 pm3 an3 cd3 ct3), sl3⟩)
    (c3 : PySem.W.codeIn K cd3 "split_words" = true) (k3 : PySem.W.keepIn K (.ref f3) = true)
    (w3_0 : PySem.W.nsIn K D3 "separator" = some (some (.str " " t3_0)))
    (a4 : PySem.W.nsIn K mainGlobals "is_aim" = some (some (.ref f4)))
    (l4 : K.lookup f4 = some ⟨oc4, od4, .func (PySem.W.fnOf "is_aim" "is_aim" (defArgs s_is_aim) (defBody s_is_aim) (defScope s_is_aim) .none kV4 dc4 pm4 an4 cd4 ct4), sl4⟩)
    (c4 : PySem.W.codeIn K cd4 "is_aim" = true) (k4 : PySem.W.keepIn K (.ref f4) = true)
    (a5 : PySem.W.nsIn K mainGlobals "goal_text" = some (some (.ref f5)))
    (l5 : K.lookup f5 = some ⟨oc5, od5, .func (PySem.W.fnOf "goal_text" "goal_text" (defArgs s_goal_text) (defBody s_goal_text) (defScope s_goal_text) .none kV5 dc5 pm5 an5 cd5 ct5), sl5⟩)
    (c5 : PySem.W.codeIn K cd5 "goal_text" = true) (k5 : PySem.W.keepIn K (.ref f5) = true)
    (a6 : PySem.W.nsIn K mainGlobals "read_goal" = some (some (.ref f6)))
    (l6 : K.lookup f6 = some ⟨oc6, od6, .func (PySem.W.fnOf "read_goal" "read_goal" (defArgs s_read_goal) (defBody s_read_goal) (defScope s_read_goal) .none kV6 dc6 pm6 an6 cd6 ct6), sl6⟩)
    (c6 : PySem.W.codeIn K cd6 "read_goal" = true) (k6 : PySem.W.keepIn K (.ref f6) = true)
    (a7 : PySem.W.nsIn K mainGlobals "_law_cell" = some (some (.ref f7)))
    (l7 : K.lookup f7 = some ⟨oc7, od7, .func (PySem.W.fnOf "_law_cell" "_law_cell" (defArgs s_cell) (defBody s_cell) (defScope s_cell) .none kV7 dc7 pm7 an7 cd7 ct7), sl7⟩)
    (c7 : PySem.W.codeIn K cd7 "_law_cell" = true) (k7 : PySem.W.keepIn K (.ref f7) = true)
    (a8 : PySem.W.nsIn K mainGlobals "_law_bag" = some (some (.ref f8)))
    (l8 : K.lookup f8 = some ⟨oc8, od8, .func (PySem.W.fnOf "_law_bag" "_law_bag" (defArgs s_bag) (defBody s_bag) (defScope s_bag) .none kV8 dc8 pm8 an8 cd8 ct8), sl8⟩)
    (c8 : PySem.W.codeIn K cd8 "_law_bag" = true) (k8 : PySem.W.keepIn K (.ref f8) = true)
    (a9 : PySem.W.nsIn K mainGlobals "_law_take" = some (some (.ref f9)))
    (l9 : K.lookup f9 = some ⟨oc9, od9, .func (PySem.W.fnOf "_law_take" "_law_take" (defArgs s_take) (defBody s_take) (defScope s_take) .none kV9 dc9 pm9 an9 cd9 ct9), sl9⟩)
    (c9 : PySem.W.codeIn K cd9 "_law_take" = true) (k9 : PySem.W.keepIn K (.ref f9) = true)
    (a10 : PySem.W.nsIn K mainGlobals "_law_name" = some (some (.ref f10)))
    (l10 : K.lookup f10 = some ⟨oc10, od10, .func (PySem.W.fnOf "_law_name" "_law_name" (defArgs s_name) (defBody s_name) (defScope s_name) .none kV10 dc10 pm10 an10 cd10 ct10), sl10⟩)
    (c10 : PySem.W.codeIn K cd10 "_law_name" = true) (k10 : PySem.W.keepIn K (.ref f10) = true)
    (a11 : PySem.W.nsIn K mainGlobals "_law_is_name" = some (some (.ref f11)))
    (l11 : K.lookup f11 = some ⟨oc11, od11, .func (PySem.W.fnOf "_law_is_name" "_law_is_name" (defArgs s_l_is_name) (defBody s_l_is_name) (defScope s_l_is_name) .none kV11 dc11 pm11 an11 cd11 ct11), sl11⟩)
    (c11 : PySem.W.codeIn K cd11 "_law_is_name" = true) (k11 : PySem.W.keepIn K (.ref f11) = true)
    (a12 : PySem.W.nsIn K mainGlobals "_law_is_path" = some (some (.ref f12)))
    (l12 : K.lookup f12 = some ⟨oc12, od12, .func (PySem.W.fnOf "_law_is_path" "_law_is_path" (defArgs s_l_is_path) (defBody s_l_is_path) (defScope s_l_is_path) .none kV12 dc12 pm12 an12 cd12 ct12), sl12⟩)
    (c12 : PySem.W.codeIn K cd12 "_law_is_path" = true) (k12 : PySem.W.keepIn K (.ref f12) = true)
    (a13 : PySem.W.nsIn K mainGlobals "_law_fits" = some (some (.ref f13)))
    (l13 : K.lookup f13 = some ⟨oc13, od13, .func (PySem.W.fnOf "_law_fits" "_law_fits" (defArgs s_fits) (defBody s_fits) (defScope s_fits) .none kV13 dc13 pm13 an13 cd13 ct13), sl13⟩)
    (c13 : PySem.W.codeIn K cd13 "_law_fits" = true) (k13 : PySem.W.keepIn K (.ref f13) = true)
    (a14 : PySem.W.nsIn K mainGlobals "_law_tried" = some (some (.ref f14)))
    (l14 : K.lookup f14 = some ⟨oc14, od14, .func (PySem.W.fnOf "_law_tried" "_law_tried" (defArgs s_tried) (defBody s_tried) (defScope s_tried) .none kV14 dc14 pm14 an14 cd14 ct14), sl14⟩)
    (c14 : PySem.W.codeIn K cd14 "_law_tried" = true) (k14 : PySem.W.keepIn K (.ref f14) = true)
    (a15 : PySem.W.nsIn K mainGlobals "law" = some (some (.ref f15)))
    (l15 : K.lookup f15 = some ⟨oc15, od15, .func (PySem.W.fnOf "law" "law" (defArgs s_law) (defBody s_law) (defScope s_law) .none kV15 dc15 pm15 an15 cd15 ct15), sl15⟩)
    (c15 : PySem.W.codeIn K cd15 "law" = true) (k15 : PySem.W.keepIn K (.ref f15) = true)
    (ka0 : PySem.W.nsIn K mainGlobals "RightsError" = some (some (.ref K0)))
    (ka1 : PySem.W.nsIn K mainGlobals "MissingError" = some (some (.ref K1)))
    (ka2 : PySem.W.nsIn K mainGlobals "InvalidGoal" = some (some (.ref K2)))
    (ka3 : PySem.W.nsIn K mainGlobals "InvalidText" = some (some (.ref K3)))
    (ic0 : PySem.W.isClsIn K K0 = true) (yt0 : PySem.W.typeIn K (.ref K0) = some (.type "type"))
    (ic1 : PySem.W.isClsIn K K1 = true) (yt1 : PySem.W.typeIn K (.ref K1) = some (.type "type"))
    (xl2 : K.lookup K2 = some (excClassObj nm2 qu2 K2 N2 bs2 [.ref K0, .type "ValueError", .type "Exception", .type "BaseException", .type "object"] true sn2 sub2 ab2 col2 dd2 m02 m12 m22 m32 m52 "ValueError.__new__"))
    (sa2 : PySem.W.findIn K (.ref K2) "__setattr__" = some (some (.builtin "object.__setattr__")))
    (ga2 : PySem.W.findIn K (.ref K2) "__getattribute__" = some (some (.builtin "BaseException.__getattribute__")))
    (gg2 : PySem.W.findIn K (.ref K2) "__getattr__" = some none)
    (nb2 : PySem.W.findIn K (.ref K2) "value" = some none)
    (in2 : PySem.W.findIn K (.ref K2) "__init__" = some (some (.ref J2)))
    (ti2 : PySem.W.typeIn K (.ref J2) = some (.type "function"))
    (li2 : K.lookup J2 = some ⟨ioc2, iod2, .func (PySem.W.fnOf "__init__" "InvalidGoal.__init__" (PySem.ExV.iA pa2 pb2) (PySem.ExV.iB pc2 pd2 pe2 pf2) PySem.ExV.iS .none .none idc2 ipm2 ian2 icd2 ict2), isl2⟩)
    (ci2 : PySem.W.codeIn K icd2 "InvalidGoal.__init__" = true)
    (kc2 : PySem.W.keepIn K (.ref K2) = true)
    (eb2 : PySem.W.subIn K (.ref K2) (.type "BaseException") = some true)
    (yt2 : PySem.W.typeIn K (.ref K2) = some (.type "type"))
    (hd2 : PySem.W.hasDictIn K K2 = true)
    (ic2 : PySem.W.isClsIn K K2 = true)
    (sc2 : PySem.W.subIn K (.ref K2) (.ref K2) = some true)
    (ca2 : PySem.W.findIn K (.ref K2) "__class__" = some (some (.builtin "object.__class__")))
    (cn2 : PySem.W.specialIn K (.builtin "object.__class__") "__get__" = some (some (.builtin "getset_descriptor.__get__")))
    (xt2 : PySem.W.takesIn K (.builtin "object.__class__") = some true)
    (cm2 : PySem.W.mroIn K K2 (.type "object") = some true)
    (xl3 : K.lookup K3 = some (excClassObj nm3 qu3 K3 N3 bs3 [.ref K0, .type "ValueError", .type "Exception", .type "BaseException", .type "object"] true sn3 sub3 ab3 col3 dd3 m03 m13 m23 m33 m53 "ValueError.__new__"))
    (sa3 : PySem.W.findIn K (.ref K3) "__setattr__" = some (some (.builtin "object.__setattr__")))
    (ga3 : PySem.W.findIn K (.ref K3) "__getattribute__" = some (some (.builtin "BaseException.__getattribute__")))
    (gg3 : PySem.W.findIn K (.ref K3) "__getattr__" = some none)
    (nb3 : PySem.W.findIn K (.ref K3) "value" = some none)
    (in3 : PySem.W.findIn K (.ref K3) "__init__" = some (some (.ref J3)))
    (ti3 : PySem.W.typeIn K (.ref J3) = some (.type "function"))
    (li3 : K.lookup J3 = some ⟨ioc3, iod3, .func (PySem.W.fnOf "__init__" "InvalidText.__init__" (PySem.ExV.iA pa3 pb3) (PySem.ExV.iB pc3 pd3 pe3 pf3) PySem.ExV.iS .none .none idc3 ipm3 ian3 icd3 ict3), isl3⟩)
    (ci3 : PySem.W.codeIn K icd3 "InvalidText.__init__" = true)
    (kc3 : PySem.W.keepIn K (.ref K3) = true)
    (eb3 : PySem.W.subIn K (.ref K3) (.type "BaseException") = some true)
    (yt3 : PySem.W.typeIn K (.ref K3) = some (.type "type"))
    (hd3 : PySem.W.hasDictIn K K3 = true)
    (ic3 : PySem.W.isClsIn K K3 = true)
    (sc3 : PySem.W.subIn K (.ref K3) (.ref K3) = some true)
    (ca3 : PySem.W.findIn K (.ref K3) "__class__" = some (some (.builtin "object.__class__")))
    (cn3 : PySem.W.specialIn K (.builtin "object.__class__") "__get__" = some (some (.builtin "getset_descriptor.__get__")))
    (xt3 : PySem.W.takesIn K (.builtin "object.__class__") = some true)
    (cm3 : PySem.W.mroIn K K3 (.type "object") = some true)
    (kit_InvalidGoal_RightsError : PySem.W.subIn K (.ref K2) (.ref K0) = some true)
    (kit_InvalidGoal_MissingError : PySem.W.subIn K (.ref K2) (.ref K1) = some false)
    (kit_InvalidText_RightsError : PySem.W.subIn K (.ref K3) (.ref K0) = some true)
    (kit_InvalidText_InvalidGoal : PySem.W.subIn K (.ref K3) (.ref K2) = some false)
    (exm_InvalidText_InvalidGoal : PySem.W.subIn K (.ref K3) (.ref K2) = some false)
    (q0 : PySem.W.nsIn K mainGlobals "LONGEST_NAME" = some (some (.int 8 tc0)))
    (q1 : PySem.W.nsIn K mainGlobals "PATH_AIMS" = some (some (.ref KD1)))
    (kl1 : K.lookup KD1 = some kto1)
    (ku1 : kto1.cls = .type "tuple")
    (kd1 : kto1.data = .seq kti1 ktn1)
    (kz1 : kti1.size ≤ sizeLine)
    (kv1 : Vals [.str "read", .str "write", .str "gone", .str "lost", .str "made"] kti1.toList)
    (q2 : PySem.W.nsIn K mainGlobals "USER_AIMS" = some (some (.ref KD2)))
    (kl2 : K.lookup KD2 = some kto2)
    (ku2 : kto2.cls = .type "tuple")
    (kd2 : kto2.data = .seq kti2 ktn2)
    (kz2 : kti2.size ≤ sizeLine)
    (kv2 : Vals [.str "led", .str "shut"] kti2.toList)
    (z0 : PySem.W.nsIn K mainGlobals "all" = some none)
    (z1 : PySem.W.nsIn K mainGlobals "isinstance" = some none)
    (z2 : PySem.W.nsIn K mainGlobals "len" = some none)
    (z3 : PySem.W.nsIn K mainGlobals "list" = some none)
    (z4 : PySem.W.nsIn K mainGlobals "max" = some none)
    (z5 : PySem.W.nsIn K mainGlobals "min" = some none)
    (z6 : PySem.W.nsIn K mainGlobals "range" = some none)
    (z7 : PySem.W.nsIn K mainGlobals "repr" = some none)
    (z8 : PySem.W.nsIn K mainGlobals "str" = some none)
    (z9 : PySem.W.nsIn K mainGlobals "tuple" = some none) :
    ∀ base : Heap, K.In base → base.Ns mainGlobals mg → FnG P w K mg base CX0 6 fa (spLaw K) := by
  have e := hfa.symm.trans (PySem.W.mg_of X G a15)
  cases e
  let A : Ads := {
    f_is_name := f0
    d_is_name := PySem.W.fnOf "is_name" "is_name" (defArgs s_is_name) (defBody s_is_name) (defScope s_is_name) .none kV0 dc0 pm0 an0 cd0 ct0
    f_is_user_name := f1
    d_is_user_name := PySem.W.fnOf "is_user_name" "is_user_name" (defArgs s_is_user_name) (defBody s_is_user_name) (defScope s_is_user_name) .none kV1 dc1 pm1 an1 cd1 ct1
    f_is_path := f2
    d_is_path := PySem.W.fnOf "is_path" "is_path" (defArgs s_is_path) (defBody s_is_path) (defScope s_is_path) .none kV2 dc2 pm2 an2 cd2 ct2
    f_split_words := f3
    d_split_words := PySem.W.fnOf "split_words" "split_words" (defArgs s_split_words) (defBody s_split_words) (defScope s_split_words) .none (.ref D3) dc3 pm3 an3 cd3 ct3
    f_is_aim := f4
    d_is_aim := PySem.W.fnOf "is_aim" "is_aim" (defArgs s_is_aim) (defBody s_is_aim) (defScope s_is_aim) .none kV4 dc4 pm4 an4 cd4 ct4
    f_goal_text := f5
    d_goal_text := PySem.W.fnOf "goal_text" "goal_text" (defArgs s_goal_text) (defBody s_goal_text) (defScope s_goal_text) .none kV5 dc5 pm5 an5 cd5 ct5
    f_read_goal := f6
    d_read_goal := PySem.W.fnOf "read_goal" "read_goal" (defArgs s_read_goal) (defBody s_read_goal) (defScope s_read_goal) .none kV6 dc6 pm6 an6 cd6 ct6
    f_cell := f7
    d_cell := PySem.W.fnOf "_law_cell" "_law_cell" (defArgs s_cell) (defBody s_cell) (defScope s_cell) .none kV7 dc7 pm7 an7 cd7 ct7
    f_bag := f8
    d_bag := PySem.W.fnOf "_law_bag" "_law_bag" (defArgs s_bag) (defBody s_bag) (defScope s_bag) .none kV8 dc8 pm8 an8 cd8 ct8
    f_take := f9
    d_take := PySem.W.fnOf "_law_take" "_law_take" (defArgs s_take) (defBody s_take) (defScope s_take) .none kV9 dc9 pm9 an9 cd9 ct9
    f_name := f10
    d_name := PySem.W.fnOf "_law_name" "_law_name" (defArgs s_name) (defBody s_name) (defScope s_name) .none kV10 dc10 pm10 an10 cd10 ct10
    f_l_is_name := f11
    d_l_is_name := PySem.W.fnOf "_law_is_name" "_law_is_name" (defArgs s_l_is_name) (defBody s_l_is_name) (defScope s_l_is_name) .none kV11 dc11 pm11 an11 cd11 ct11
    f_l_is_path := f12
    d_l_is_path := PySem.W.fnOf "_law_is_path" "_law_is_path" (defArgs s_l_is_path) (defBody s_l_is_path) (defScope s_l_is_path) .none kV12 dc12 pm12 an12 cd12 ct12
    f_fits := f13
    d_fits := PySem.W.fnOf "_law_fits" "_law_fits" (defArgs s_fits) (defBody s_fits) (defScope s_fits) .none kV13 dc13 pm13 an13 cd13 ct13
    f_tried := f14
    d_tried := PySem.W.fnOf "_law_tried" "_law_tried" (defArgs s_tried) (defBody s_tried) (defScope s_tried) .none kV14 dc14 pm14 an14 cd14 ct14
    f_law := fa
    d_law := PySem.W.fnOf "law" "law" (defArgs s_law) (defBody s_law) (defScope s_law) .none kV15 dc15 pm15 an15 cd15 ct15
    C_RightsError := K0
    C_MissingError := K1
    C_InvalidGoal := K2
    C_InvalidText := K3
    I_InvalidGoal := J2
    I_InvalidText := J3
    K_PATH_AIMS := KD1
    K_USER_AIMS := KD2 }
  have T : Txt K mg A := {
    F_is_name := fun_mk l0 c0 k0
    B_is_name := (fun_mk (st := s_is_name) l0 c0 k0).binds (ps := ["value"]) fun _ _ _ _ _ _ us hl => match us, hl with | [_], _ => rfl
    g_is_name := PySem.W.mg_of X G a0
    F_is_user_name := fun_mk l1 c1 k1
    B_is_user_name := (fun_mk (st := s_is_user_name) l1 c1 k1).binds (ps := ["value"]) fun _ _ _ _ _ _ us hl => match us, hl with | [_], _ => rfl
    g_is_user_name := PySem.W.mg_of X G a1
    F_is_path := fun_mk l2 c2 k2
    B_is_path := (fun_mk (st := s_is_path) l2 c2 k2).binds (ps := ["value"]) fun _ _ _ _ _ _ us hl => match us, hl with | [_], _ => rfl
    g_is_path := PySem.W.mg_of X G a2
    F_split_words := ⟨⟨oc3, od3, .none, .ref D3, dc3, pm3, an3, cd3, ct3, sl3, rfl, l3, c3, .inl ⟨rfl, rfl⟩, .inr ⟨D3, rfl, (List.forall_mem_cons.mpr ⟨⟨_, w3_0, _, rfl⟩, (fun _ h => by simp at h)⟩)⟩⟩, k3⟩
    g_split_words := PySem.W.mg_of X G a3
    F_is_aim := fun_mk l4 c4 k4
    B_is_aim := (fun_mk (st := s_is_aim) l4 c4 k4).binds (ps := ["value"]) fun _ _ _ _ _ _ us hl => match us, hl with | [_], _ => rfl
    g_is_aim := PySem.W.mg_of X G a4
    F_goal_text := fun_mk l5 c5 k5
    B_goal_text := (fun_mk (st := s_goal_text) l5 c5 k5).binds (ps := ["goal"]) fun _ _ _ _ _ _ us hl => match us, hl with | [_], _ => rfl
    g_goal_text := PySem.W.mg_of X G a5
    F_read_goal := fun_mk l6 c6 k6
    B_read_goal := (fun_mk (st := s_read_goal) l6 c6 k6).binds (ps := ["text"]) fun _ _ _ _ _ _ us hl => match us, hl with | [_], _ => rfl
    g_read_goal := PySem.W.mg_of X G a6
    F_cell := fun_mk l7 c7 k7
    B_cell := (fun_mk (st := s_cell) l7 c7 k7).binds (ps := ["_law_script", "_law_k"]) fun _ _ _ _ _ _ us hl => match us, hl with | [_, _], _ => rfl
    g_cell := PySem.W.mg_of X G a7
    F_bag := fun_mk l8 c8 k8
    B_bag := (fun_mk (st := s_bag) l8 c8 k8).binds (ps := ["_law_number"]) fun _ _ _ _ _ _ us hl => match us, hl with | [_], _ => rfl
    g_bag := PySem.W.mg_of X G a8
    F_take := fun_mk l9 c9 k9
    B_take := (fun_mk (st := s_take) l9 c9 k9).binds (ps := ["_law_bag_here", "_law_count"]) fun _ _ _ _ _ _ us hl => match us, hl with | [_, _], _ => rfl
    g_take := PySem.W.mg_of X G a9
    F_name := fun_mk l10 c10 k10
    B_name := (fun_mk (st := s_name) l10 c10 k10).binds (ps := ["_law_bag_here"]) fun _ _ _ _ _ _ us hl => match us, hl with | [_], _ => rfl
    g_name := PySem.W.mg_of X G a10
    F_l_is_name := fun_mk l11 c11 k11
    B_l_is_name := (fun_mk (st := s_l_is_name) l11 c11 k11).binds (ps := ["_law_thing"]) fun _ _ _ _ _ _ us hl => match us, hl with | [_], _ => rfl
    g_l_is_name := PySem.W.mg_of X G a11
    F_l_is_path := fun_mk l12 c12 k12
    B_l_is_path := (fun_mk (st := s_l_is_path) l12 c12 k12).binds (ps := ["_law_thing"]) fun _ _ _ _ _ _ us hl => match us, hl with | [_], _ => rfl
    g_l_is_path := PySem.W.mg_of X G a12
    F_fits := fun_mk l13 c13 k13
    B_fits := (fun_mk (st := s_fits) l13 c13 k13).binds (ps := ["_law_thing"]) fun _ _ _ _ _ _ us hl => match us, hl with | [_], _ => rfl
    g_fits := PySem.W.mg_of X G a13
    F_tried := fun_mk l14 c14 k14
    B_tried := (fun_mk (st := s_tried) l14 c14 k14).binds (ps := ["_law_way", "_law_thing"]) fun _ _ _ _ _ _ us hl => match us, hl with | [_, _], _ => rfl
    g_tried := PySem.W.mg_of X G a14
    F_law := fun_mk l15 c15 k15
    B_law := (fun_mk (st := s_law) l15 c15 k15).binds (ps := ["_law_script"]) fun _ _ _ _ _ _ us hl => match us, hl with | [_], _ => rfl
    g_law := PySem.W.mg_of X G a15
    c_RightsError := ⟨_, PySem.W.mg_of X G ka0, rfl⟩
    c_MissingError := ⟨_, PySem.W.mg_of X G ka1, rfl⟩
    c_InvalidGoal := ⟨_, PySem.W.mg_of X G ka2, rfl⟩
    c_InvalidText := ⟨_, PySem.W.mg_of X G ka3, rfl⟩
    low_InvalidGoal := { gC := PySem.W.mg_of X G ka2, cls := ⟨_, _, _, _, _, _, _, _, _, _, _, _, _, _, _, xl2, rfl⟩, sa := sa2, ga := ga2, gg := gg2, noN := nb2, iC := in2, tC := ti2, kC := kc2, exC := eb2, tyC := yt2, hdC := hd2, te := exm_of eb2 ic2 yt2 sc2, fn := ⟨_, _, _, _, _, _, _, _, _, _, _, _, _, _, li2, ci2⟩ }
    ec_InvalidGoal := ⟨ga2, gg2, eb2, hd2, ca2, cn2, xt2, cm2⟩
    low_InvalidText := { gC := PySem.W.mg_of X G ka3, cls := ⟨_, _, _, _, _, _, _, _, _, _, _, _, _, _, _, xl3, rfl⟩, sa := sa3, ga := ga3, gg := gg3, noN := nb3, iC := in3, tC := ti3, kC := kc3, exC := eb3, tyC := yt3, hdC := hd3, te := exm_of eb3 ic3 yt3 sc3, fn := ⟨_, _, _, _, _, _, _, _, _, _, _, _, _, _, li3, ci3⟩ }
    ec_InvalidText := ⟨ga3, gg3, eb3, hd3, ca3, cn3, xt3, cm3⟩
    kit_InvalidGoal_RightsError := kit_of sc2 ic0 yt0 kit_InvalidGoal_RightsError
    kit_InvalidGoal_MissingError := kit_of sc2 ic1 yt1 kit_InvalidGoal_MissingError
    kit_InvalidText_RightsError := kit_of sc3 ic0 yt0 kit_InvalidText_RightsError
    kit_InvalidText_InvalidGoal := kit_of sc3 ic2 yt2 kit_InvalidText_InvalidGoal
    exm_InvalidText_InvalidGoal := exm_of eb2 ic2 yt2 exm_InvalidText_InvalidGoal
    c_LONGEST_NAME := ⟨_, PySem.W.mg_of X G q0, _, rfl⟩
    c_PATH_AIMS := ⟨_, PySem.W.mg_of X G q1, rfl⟩
    tu_PATH_AIMS := ⟨_, _, _, kl1, ku1, kd1, kz1, kv1⟩
    c_USER_AIMS := ⟨_, PySem.W.mg_of X G q2, rfl⟩
    tu_USER_AIMS := ⟨_, _, _, kl2, ku2, kd2, kz2, kv2⟩
    b_all := PySem.W.mg_none_of X G z0
    b_isinstance := PySem.W.mg_none_of X G z1
    b_len := PySem.W.mg_none_of X G z2
    b_list := PySem.W.mg_none_of X G z3
    b_max := PySem.W.mg_none_of X G z4
    b_min := PySem.W.mg_none_of X G z5
    b_range := PySem.W.mg_none_of X G z6
    b_repr := PySem.W.mg_none_of X G z7
    b_str := PySem.W.mg_none_of X G z8
    b_tuple := PySem.W.mg_none_of X G z9 }
  exact fun base _ _ => ok_law T
end K86
open PySem PySem.W PyProof.Rows
set_option maxHeartbeats 0 in
theorem PySem.Challenge.cw_filerights_k86_texts_of_goals_holds : PySem.Challenge.rw_filerights_k86_texts_of_goals.Holds := by
  w_on; o_law; k_head; (case hw => w_witness2)
  k_fill
  refine FR.walk_ofG (l := PySem.Challenge.rw_filerights_k86_texts_of_goals) (n := 63) (k := 6) (sp := fun w => K86.X.spLaw _) rfl (by decide) rfl ⟨rfl, by decide, by decide⟩ (fun w h Y => PySem.W.kIn_of Y) ?F (fun _ _ a ns hl _ hS => ⟨a, ns, rfl, hS, hl, fun _ => rfl⟩)
  case F =>
    intro w mg fa h KX G hmg
    refine' K86.all_mk KX G hmg ?a0 ?l0 ?c0 ?k0 ?a1 ?l1 ?c1 ?k1 ?a2 ?l2 ?c2 ?k2 ?a3 ?l3 ?c3 ?k3 ?w3_0 ?a4 ?l4 ?c4 ?k4 ?a5 ?l5 ?c5 ?k5 ?a6 ?l6 ?c6 ?k6 ?a7 ?l7 ?c7 ?k7 ?a8 ?l8 ?c8 ?k8 ?a9 ?l9 ?c9 ?k9 ?a10 ?l10 ?c10 ?k10 ?a11 ?l11 ?c11 ?k11 ?a12 ?l12 ?c12 ?k12 ?a13 ?l13 ?c13 ?k13 ?a14 ?l14 ?c14 ?k14 ?a15 ?l15 ?c15 ?k15 ?ka0 ?ka1 ?ka2 ?ka3 ?ic0 ?yt0 ?ic1 ?yt1 ?xl2 ?sa2 ?ga2 ?gg2 ?nb2 ?in2 ?ti2 ?li2 ?ci2 ?kc2 ?eb2 ?yt2 ?hd2 ?ic2 ?sc2 ?ca2 ?cn2 ?xt2 ?cm2 ?xl3 ?sa3 ?ga3 ?gg3 ?nb3 ?in3 ?ti3 ?li3 ?ci3 ?kc3 ?eb3 ?yt3 ?hd3 ?ic3 ?sc3 ?ca3 ?cn3 ?xt3 ?cm3 ?kit_InvalidGoal_RightsError ?kit_InvalidGoal_MissingError ?kit_InvalidText_RightsError ?kit_InvalidText_InvalidGoal ?exm_InvalidText_InvalidGoal ?q0 ?q1 ?kl1 ?ku1 ?kd1 ?kz1 ?kv1 ?q2 ?kl2 ?ku2 ?kd2 ?kz2 ?kv2 ?z0 ?z1 ?z2 ?z3 ?z4 ?z5 ?z6 ?z7 ?z8 ?z9
    (case a0 => k_is)
    (case l0 => k_is)
    (case c0 => k_is)
    (case k0 => k_is)
    (case a1 => k_is)
    (case l1 => k_is)
    (case c1 => k_is)
    (case k1 => k_is)
    (case a2 => k_is)
    (case l2 => k_is)
    (case c2 => k_is)
    (case k2 => k_is)
    (case a3 => k_is)
    (case l3 => k_is)
    (case c3 => k_is)
    (case k3 => k_is)
    (case w3_0 => k_is)
    (case a4 => k_is)
    (case l4 => k_is)
    (case c4 => k_is)
    (case k4 => k_is)
    (case a5 => k_is)
    (case l5 => k_is)
    (case c5 => k_is)
    (case k5 => k_is)
    (case a6 => k_is)
    (case l6 => k_is)
    (case c6 => k_is)
    (case k6 => k_is)
    (case a7 => k_is)
    (case l7 => k_is)
    (case c7 => k_is)
    (case k7 => k_is)
    (case a8 => k_is)
    (case l8 => k_is)
    (case c8 => k_is)
    (case k8 => k_is)
    (case a9 => k_is)
    (case l9 => k_is)
    (case c9 => k_is)
    (case k9 => k_is)
    (case a10 => k_is)
    (case l10 => k_is)
    (case c10 => k_is)
    (case k10 => k_is)
    (case a11 => k_is)
    (case l11 => k_is)
    (case c11 => k_is)
    (case k11 => k_is)
    (case a12 => k_is)
    (case l12 => k_is)
    (case c12 => k_is)
    (case k12 => k_is)
    (case a13 => k_is)
    (case l13 => k_is)
    (case c13 => k_is)
    (case k13 => k_is)
    (case a14 => k_is)
    (case l14 => k_is)
    (case c14 => k_is)
    (case k14 => k_is)
    (case a15 => k_is)
    (case l15 => k_is)
    (case c15 => k_is)
    (case k15 => k_is)
    (case ka0 => k_is)
    (case ka1 => k_is)
    (case ka2 => k_is)
    (case ka3 => k_is)
    (case ic0 => k_is)
    (case yt0 => k_is)
    (case ic1 => k_is)
    (case yt1 => k_is)
    (case xl2 => k_is)
    (case sa2 => k_is)
    (case ga2 => k_is)
    (case gg2 => k_is)
    (case nb2 => k_is)
    (case in2 => k_is)
    (case ti2 => k_is)
    (case li2 => k_is)
    (case ci2 => k_is)
    (case kc2 => k_is)
    (case eb2 => k_is)
    (case yt2 => k_is)
    (case hd2 => k_is)
    (case ic2 => k_is)
    (case sc2 => k_is)
    (case ca2 => k_is)
    (case cn2 => k_is)
    (case xt2 => k_is)
    (case cm2 => k_is)
    (case xl3 => k_is)
    (case sa3 => k_is)
    (case ga3 => k_is)
    (case gg3 => k_is)
    (case nb3 => k_is)
    (case in3 => k_is)
    (case ti3 => k_is)
    (case li3 => k_is)
    (case ci3 => k_is)
    (case kc3 => k_is)
    (case eb3 => k_is)
    (case yt3 => k_is)
    (case hd3 => k_is)
    (case ic3 => k_is)
    (case sc3 => k_is)
    (case ca3 => k_is)
    (case cn3 => k_is)
    (case xt3 => k_is)
    (case cm3 => k_is)
    (case kit_InvalidGoal_RightsError => k_is)
    (case kit_InvalidGoal_MissingError => k_is)
    (case kit_InvalidText_RightsError => k_is)
    (case kit_InvalidText_InvalidGoal => k_is)
    (case exm_InvalidText_InvalidGoal => k_is)
    (case q0 => k_is)
    (case q1 => k_is)
    (case kl1 => k_is)
    (case ku1 => first | k_is | exact (by rfl) | exact FR.size_le (by decide) | decide | (repeat (first | exact True.intro | exact .nil | refine .cons ⟨_, rfl⟩ ?_ | refine ⟨⟨_, _, rfl, rfl⟩, ?_⟩)))
    (case kd1 => first | k_is | exact (by rfl) | exact FR.size_le (by decide) | decide | (repeat (first | exact True.intro | exact .nil | refine .cons ⟨_, rfl⟩ ?_ | refine ⟨⟨_, _, rfl, rfl⟩, ?_⟩)))
    (case kz1 => first | k_is | exact (by rfl) | exact FR.size_le (by decide) | decide | (repeat (first | exact True.intro | exact .nil | refine .cons ⟨_, rfl⟩ ?_ | refine ⟨⟨_, _, rfl, rfl⟩, ?_⟩)))
    (case kv1 => first | k_is | exact (by rfl) | exact FR.size_le (by decide) | decide | (repeat (first | exact True.intro | exact .nil | refine .cons ⟨_, rfl⟩ ?_ | refine ⟨⟨_, _, rfl, rfl⟩, ?_⟩)))
    (case q2 => k_is)
    (case kl2 => k_is)
    (case ku2 => first | k_is | exact (by rfl) | exact FR.size_le (by decide) | decide | (repeat (first | exact True.intro | exact .nil | refine .cons ⟨_, rfl⟩ ?_ | refine ⟨⟨_, _, rfl, rfl⟩, ?_⟩)))
    (case kd2 => first | k_is | exact (by rfl) | exact FR.size_le (by decide) | decide | (repeat (first | exact True.intro | exact .nil | refine .cons ⟨_, rfl⟩ ?_ | refine ⟨⟨_, _, rfl, rfl⟩, ?_⟩)))
    (case kz2 => first | k_is | exact (by rfl) | exact FR.size_le (by decide) | decide | (repeat (first | exact True.intro | exact .nil | refine .cons ⟨_, rfl⟩ ?_ | refine ⟨⟨_, _, rfl, rfl⟩, ?_⟩)))
    (case kv2 => first | k_is | exact (by rfl) | exact FR.size_le (by decide) | decide | (repeat (first | exact True.intro | exact .nil | refine .cons ⟨_, rfl⟩ ?_ | refine ⟨⟨_, _, rfl, rfl⟩, ?_⟩)))
    (case z0 => k_is)
    (case z1 => k_is)
    (case z2 => k_is)
    (case z3 => k_is)
    (case z4 => k_is)
    (case z5 => k_is)
    (case z6 => k_is)
    (case z7 => k_is)
    (case z8 => k_is)
    (case z9 => k_is)
