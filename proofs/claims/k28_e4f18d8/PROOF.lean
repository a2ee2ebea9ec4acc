import PyProof.Rows.All
import Wide.All
import OpenK.AllK
import Wide.FinOn
import HandS.ForMost
import HandS.IsInst
import HandS.Defaults
import HandS.StrMore
import HandS.Flow
import HandS.Codes
import HandS.EndBits
import HandS.Walk
import HandS.Replace
import HandS.Star
import HandS.TupLe
import HandS.ForExc
import HandS.TryMany
import HandS.ExcIs
import HandS.ExcField
import KE.OsGo
import KE.KExcIs
import HandS.Deep
import PyProof.EqKinds
import HandS.SlotsOwn
import KE.KOpsOwn
import HandS.Iter
import HandS.More
import HandS.SetTxt0
import HandS.Zip
import HandS.Conv
import PyProof.ListStr
import HandS.ReplaceDef
import HandS.ReplaceLit
import HandS.ReplaceList
import PyProof.Rows.Range3
import HandS.ClsMeth
import PyProof.P3In
import HandS.TupAny
import HandS.Lambda
import PyProof.CallFns
import PyProof.NeData
import HandS.EndTab
import KE.KUnpackStar
import HandS.DictTup
import KE.KDictList
import KE.KDictItemsList
import HandS.NoneIn
import HandS.Strs
import HandS.SetFor
import PyProof.WalksMore
import PyProof.WalksS
import HandS.Comp
import HandS.SetBool
import HandS.SortKw
import HandS.Style
import PyProof.SumWalk
import OpenK.KMeth
import HandS.DictComp
import PyProof.P3Eq
import HandS.Small
import HandS.Finally
import HandS.MakeKwOnly
import PyProof.InstEq
import PyProof.IsRules
import HandS.ExcOwn
import HandS.Property
import PySem.Challenge.RW_filerights_k28_judge_refused
set_option Elab.async false
set_option linter.all false
set_option maxRecDepth 100000
/-! own lemmas over the hand layer: what a def's body holds of the heap -/
namespace FR
open PySem PySem.Spec PyProof.Rows L2 TL
/-- all that was tracked, other than at M, is as it was -/
def Keep (M : List Addr) (H H' : Hp) : Prop := ∀ b o, H b = some o → b ∉ M → H' b = some o
theorem Keep.refl {M : List Addr} {H : Hp} : Keep M H H := fun _ _ h _ => h
theorem Keep.same {H H' : Hp} (k : Keep [] H H') : Same H H' := fun b o h => k b o h (by simp)
theorem Keep.of_same {H H' : Hp} (k : Same H H') : Keep [] H H' := fun b o h _ => k b o h
theorem Keep.free {H H' : Hp} (k : Keep [] H H') {p : Addr} (h : H' p = none) : H p = none := k.same.free h
/-- a body's heap: H0 at its entry, M what it may change, L what it holds -/
structure Ow (H0 : Hp) (M : List Addr) (H : Hp) (L : List (Addr × HO)) : Prop where
  keep : ∀ b o, H0 b = some o → b ∉ M → H b = some o
  has : ∀ p ∈ L, H p.1 = some p.2
  nd : (L.map (·.1)).Nodup
  fr : ∀ p ∈ L, H0 p.1 = none ∨ p.1 ∈ M
section
variable {H0 H H' : Hp} {M : List Addr} {L : List (Addr × HO)} {a p : Addr} {o o' : HO} {K : PySem.W.Frag} {xs : List V}
theorem Ow.start0 : Ow H [] H [] := ⟨fun _ _ h _ => h, fun _ h => by simp at h, by simp, fun _ h => by simp at h⟩
theorem Ow.start1 (h : H a = some o) : Ow H [a] H [(a, o)] := ⟨fun _ _ h _ => h, fun p hp => by simp at hp; subst hp; exact h, by simp, fun p hp => by simp at hp; subst hp; exact .inr (by simp)⟩
theorem Ow.get (W : Ow H0 M H L) (i : Nat) (e : L[i]? = some (a, o)) : H a = some o := W.has _ (List.mem_of_getElem? e)
theorem Ow.new (W : Ow H0 M H L) (h : H p = none) : Ow H0 M (upd H p o) ((p, o) :: L) where
  keep := fun b u e hb => by
    rw [upd_ne (ne_of_none (W.keep b u e hb) h)]
    exact W.keep b u e hb
  has := fun q hq => by
    rcases List.mem_cons.mp hq with rfl | hq
    · exact upd_same
    · rw [upd_ne (ne_of_none (W.has q hq) h)]
      exact W.has q hq
  nd := by
    rw [List.map_cons, List.nodup_cons]
    refine ⟨fun hm => ?_, W.nd⟩
    obtain ⟨q, hq, e⟩ := List.mem_map.mp hm
    have := W.has q hq
    rw [show q.1 = p from e, h] at this
    cases this
  fr := fun q hq => by
    rcases List.mem_cons.mp hq with rfl | hq
    · by_cases hm : p ∈ M
      · exact .inr hm
      · cases e : H0 p with
        | none => exact .inl rfl
        | some u =>
          have := W.keep p u e hm
          rw [h] at this
          cases this
    · exact W.fr q hq
theorem nd_of {α β : Type} [DecidableEq α] : ∀ {L : List (α × β)} {i : Nat} {x : α × β} {q : α × β}, (L.map (·.1)).Nodup → L[i]? = some x → q ∈ L → q.1 = x.1 → q = x
  | [], i, x, q, _, e, _, _ => by simp at e
  | y :: L, 0, x, q, hn, e, hq, h => by
    have e' : y = x := Option.some.inj e
    subst e'
    rcases List.mem_cons.mp hq with r | hq
    · exact r
    · rw [List.map_cons, List.nodup_cons] at hn
      exact absurd (List.mem_map.mpr ⟨q, hq, h⟩) hn.1
  | y :: L, i + 1, x, q, hn, e, hq, h => by
    rw [List.map_cons, List.nodup_cons] at hn
    have e' : L[i]? = some x := e
    rcases List.mem_cons.mp hq with r | hq
    · subst r
      exact absurd (List.mem_map.mpr ⟨x, List.mem_of_getElem? e', h.symm⟩) hn.1
    · exact nd_of hn.2 e' hq h
theorem map_set_fst {α β : Type} : ∀ {L : List (α × β)} {i : Nat} {a : α} {o o' : β}, L[i]? = some (a, o) → (L.set i (a, o')).map (·.1) = L.map (·.1)
  | [], i, a, o, o', e => by simp at e
  | y :: L, 0, a, o, o', e => by
    have e' : y = (a, o) := Option.some.inj e
    subst e'
    rfl
  | y :: L, i + 1, a, o, o', e => by
    have e' : L[i]? = some (a, o) := e
    rw [List.set_cons_succ, List.map_cons, List.map_cons, map_set_fst e']
theorem Ow.any1 (W : Ow H0 M H L) (i : Nat) (e : L[i]? = some (a, o)) (k : Keep [a] H H') (h : H' a = some o') : Ow H0 M H' (L.set i (a, o')) where
  keep := fun b u eb hb => by
    have z := W.keep b u eb hb
    refine k b u z ?_
    intro hm
    have hm' : b = a := by simpa using hm
    subst hm'
    rcases W.fr _ (List.mem_of_getElem? e) with r | r
    · rw [show (b, o).1 = b from rfl, eb] at r; cases r
    · exact hb r
  has := fun q hq => by
    rcases List.mem_or_eq_of_mem_set hq with hq | rfl
    · by_cases ha : q.1 = a
      · have := nd_of (q := q) (by rw [map_set_fst (o' := o') e]; exact W.nd) (show (L.set i (a, o'))[i]? = some (a, o') by
          have hi : i < L.length := (List.getElem?_eq_some_iff.mp e).1
          rw [List.getElem?_set_self hi]) (by assumption) ha
        subst this
        exact h
      · exact k _ _ (W.has q hq) (by simpa using ha)
    · exact h
  nd := by rw [map_set_fst e]; exact W.nd
  fr := fun q hq => by
    rcases List.mem_or_eq_of_mem_set hq with hq | rfl
    · exact W.fr q hq
    · exact (W.fr (a, o) (List.mem_of_getElem? e) : H0 a = none ∨ a ∈ M)
theorem keep_upd {H : Hp} {a : Addr} {o : HO} : Keep [a] H (upd H a o) := fun b u e hb => by
  rw [upd_ne (by simpa using hb)]
  exact e
theorem Ow.set (W : Ow H0 M H L) (i : Nat) (e : L[i]? = some (a, o)) : Ow H0 M (upd H a o') (L.set i (a, o')) := W.any1 i e keep_upd upd_same
/-- a call that changed nothing -/
theorem Ow.call0 (W : Ow H0 M H L) (k : Keep [] H H') : Ow H0 M H' L where
  keep := fun b u e hb => k b u (W.keep b u e hb) (by simp)
  has := fun q hq => k _ _ (W.has q hq) (by simp)
  nd := W.nd
  fr := W.fr
/-- .. and handed back a new object -/
theorem Ow.res (W : Ow H0 M H L) (W' : Ow H0 M H' L) (hp : H p = none) (h : H' p = some o) : Ow H0 M H' ((p, o) :: L) where
  keep := W'.keep
  has := fun q hq => by
    rcases List.mem_cons.mp hq with rfl | hq
    · exact h
    · exact W'.has q hq
  nd := by
    rw [List.map_cons, List.nodup_cons]
    refine ⟨fun hm => ?_, W.nd⟩
    obtain ⟨q, hq, e⟩ := List.mem_map.mp hm
    have := W.has q hq
    rw [show q.1 = p from e, hp] at this
    cases this
  fr := fun q hq => by
    rcases List.mem_cons.mp hq with rfl | hq
    · by_cases hm : p ∈ M
      · exact .inr hm
      · cases e : H0 p with
        | none => exact .inl rfl
        | some u =>
          have := W.keep p u e hm
          rw [hp] at this
          cases this
    · exact W.fr q hq
theorem Ow.tail {q : Addr × HO} (W : Ow H0 M H (q :: L)) : Ow H0 M H L := ⟨W.keep, fun p hp => W.has p (List.mem_cons_of_mem _ hp), (List.nodup_cons.mp W.nd).2, fun p hp => W.fr p (List.mem_cons_of_mem _ hp)⟩
theorem Ow.drop (W : Ow H0 M H L) : Ow H0 M H [] := ⟨W.keep, fun _ h => by simp at h, by simp, fun _ h => by simp at h⟩
theorem Ow.seq (W : Ow H0 M H L) (h : SqL K H0 a xs) (ha : a ∉ M) : SqL K H a xs := by
  rcases h with (h | ⟨o, h⟩) | h
  · exact .inl (.inl (W.keep _ _ h ha))
  · exact .inl (.inr ⟨o, W.keep _ _ h ha⟩)
  · exact .inr h
theorem Ow.sq (W : Ow H0 M H L) (i : Nat) (e : L[i]? = some (a, .lst xs)) : SqL K H a xs := .inl (.inl (W.get i e))
theorem Ow.sqT (W : Ow H0 M H L) (i : Nat) (e : L[i]? = some (a, .tup xs)) : SqT K H a xs := .inl (.inl (W.get i e))
end
/-! ### objects that are made or changed: the heap behind is told by what it keeps -/
structure NewO (o : HO) (Q : VK) (H : Hp) : Prop where
  to : ∀ (p : Addr) (H' : Hp), H p = none → Keep [] H H' → H' p = some o → Q (.ref p) H'
structure MutO (a : Addr) (o : HO) (Q : Hp → Prop) (H : Hp) : Prop where
  to : ∀ H' : Hp, Keep [a] H H' → H' a = some o → Q H'
theorem keep_new {H : Hp} {p : Addr} {o : HO} (np : H p = none) : Keep [] H (upd H p o) := fun b u e _ => by
  rw [upd_ne (ne_of_none e np)]
  exact e
theorem NewO.all {o : HO} {Q : VK} {H : Hp} (h : NewO o Q H) : ∀ p, H p = none → Q (.ref p) (upd H p o) := fun p np => h.to p _ np (keep_new np) upd_same
theorem MutO.at {a : Addr} {o : HO} {Q : Hp → Prop} {H : Hp} (h : MutO a o Q H) : Q (upd H a o) := h.to _ keep_upd upd_same
section
variable {H0 H H' : Hp} {M : List Addr} {L : List (Addr × HO)} {a p : Addr} {o o' : HO} {G : Prop}
theorem with1 (i : Nat) (W : Ow H0 M H L) (e : L[i]? = some (a, o)) (k : Keep [a] H H') (h : H' a = some o') (g : Ow H0 M H' (L.set i (a, o')) → G) : G := g (W.any1 i e k h)
theorem withN (W : Ow H0 M H L) (np : H p = none) (k : Keep [] H H') (h : H' p = some o) (g : Ow H0 M H' ((p, o) :: L) → G) : G := g (W.res (W.call0 k) np h)
theorem with0 (W : Ow H0 M H L) (k : Keep [] H H') (g : Ow H0 M H' L → G) : G := g (W.call0 k)
end
section
variable {X : Cx} {e : Expr} {es : List Expr} {t t' : TE} {ta : TA} {pos : Pos} {K : PySem.W.Frag}
def mA (t : TA) : TA := fun σ H Q => ∃ Q0, t σ H Q0 ∧ ∀ xs H', Q0 xs H' → Q xs H'
theorem pa_m (h : PA X es ta) : PA X es (mA ta) := ⟨fun pos pins s σ H Q I hq => by
  obtain ⟨Q0, h0, hi⟩ := hq
  exact thn (h.run pos pins s σ H Q0 I h0) fun us s1 ⟨xs, H1, I1, r, q⟩ => ⟨xs, H1, I1, r, hi _ _ q⟩⟩
theorem pe_imp (h : PE X e t) (k : ∀ σ H Q, t' σ H Q → t σ H Q) : PE X e t' := ⟨fun pins s σ H Q I q => h.run pins s σ H Q I (k σ H Q q)⟩
def tLstN (t : TA) : TE := fun σ H Q => t σ H fun xs H1 => xs.length ≤ sizeLine ∧ NewO (.lst xs) Q H1
def tTupN (t : TA) : TE := fun σ H Q => t σ H fun xs H1 => xs.length ≤ sizeLine ∧ NewO (.tup xs) Q H1
theorem pe_lstN (h : PA X es ta) : PE X (.List es pos) (tLstN ta) := pe_imp (pe_lst (pa_m h)) fun σ H Q q => ⟨_, q, fun xs H1 z => ⟨z.1, z.2.all⟩⟩
theorem pe_tupN {x1} (h : PA X es ta) : PE X (.Tuple es x1 pos) (tTupN ta) := pe_imp (pe_tup (pa_m h)) fun σ H Q q => ⟨_, q, fun xs H1 z => ⟨z.1, z.2.all⟩⟩
theorem pe_dnewN : PE X (.Dict [] [] pos) (fun _ H Q => NewO (.dK []) Q H) := pe_imp pe_dnewK fun σ H Q q => q.all
def rSetN : V → V → V → Hp → (Hp → Prop) → Prop := fun o i v H Q => ∃ p xs k j, o = .ref p ∧ i = .int k ∧ H p = some (.lst xs) ∧ ixN xs.length k = some j ∧ MutO p (.lst (xs.set j v)) Q H
theorem set_listN : PSet X rSetN := fun pins s σ H o i v ov iv u Q I ro ri rv h => by
  obtain ⟨p, xs, k, j, e1, e2, hp, hj, q⟩ := h
  exact set_list pins s σ H o i v ov iv u Q I ro ri rv ⟨p, xs, k, j, e1, e2, hp, hj, q.at⟩
def rSlN (K : PySem.W.Frag) : V → Option Int → Option Int → Hp → VK → Prop := fun x lo hi H Q => ∃ a xs, x = .ref a ∧ SqL K H a xs ∧ NewO (.lst (cutV xs lo hi)) Q H
theorem sl_listN : SlR X (rSlN X.K) := fun pins s σ H x v vl vu lo hi sl Q I rx hs pl pu h => by
  obtain ⟨a, xs, e, hx, q⟩ := h
  exact sl_list pins s σ H x v vl vu lo hi sl Q I rx hs pl pu ⟨a, xs, e, hx, q.all⟩
def rCatN : R2 := fun x y H Q => ∃ l b xs zs, x = .ref l ∧ y = .ref b ∧ H l = some (.lst xs) ∧ H b = some (.lst zs) ∧ xs.length + zs.length ≤ sizeLine ∧ NewO (.lst (xs ++ zs)) Q H
theorem op_catN : OpR X (binaryOp .Add) rCatN := fun pins s σ H x y v u Q I rx ry h => by
  obtain ⟨l, b, xs, zs, e1, e2, hl, hb, hz, q⟩ := h
  exact op_cat pins s σ H x y v u Q I rx ry ⟨l, b, xs, zs, e1, e2, hl, hb, hz, q.all⟩
def rAppN : V → List V → Hp → VK → Prop := fun x vs H Q => ∃ l xs y, x = .ref l ∧ vs = [y] ∧ H l = some (.lst xs) ∧ xs.length < sizeLine ∧ MutO l (.lst (xs ++ [y])) (Q .non) H
theorem mt_appN : MtR X "list.append" rAppN := fun pins s σ H x xs v us Q I rx rv h => by
  obtain ⟨l, ys, y, e1, e2, hl, hz, q⟩ := h
  exact mt_append pins s σ H x xs v us Q I rx rv ⟨l, ys, y, e1, e2, hl, hz, q.at⟩
def rSplN : V → List V → Hp → VK → Prop := fun x xs H Q => ∃ a b, x = .str a ∧ xs = [.str b] ∧ (b.length == 0) = false ∧ a.length + 2 ≤ sizeLine ∧ NewO (.lst ((Txt.split a b).map V.str)) Q H
theorem mt_splN : MtR X "str.split" rSplN := fun pins s σ H x xs v us Q I rx rv h => by
  obtain ⟨a, b, e1, e2, h1, h2, q⟩ := h
  exact mt_split pins s σ H x xs v us Q I rx rv ⟨a, b, e1, e2, h1, h2, q.all⟩
def rLofN (K : PySem.W.Frag) : List V → Hp → VK → Prop := fun xs H Q => ∃ p ys, xs = [.ref p] ∧ (SqL K H p ys ∨ SqT K H p ys) ∧ NewO (.lst ys) Q H
theorem call_lofN : CallR X (.type "list") (rLofN X.K) := fun pins s σ H xs us Q I r h => by
  obtain ⟨p, ys, e, hs, q⟩ := h
  exact call_list_of pins s σ H xs us Q I r ⟨p, ys, e, hs, q.all⟩
end
/-! ### calls with keywords of a def without defaults by place -/
section
variable {K : PySem.W.Frag} {x qual : Str} {params : Arguments} {body : List Stmt} {scope : Scope} {kws : List (Str × V)} {f : Addr} {fd : FuncData} {ps : List Str}
theorem kb0 (F : FunD K x qual params body scope [] kws f fd) (n : Nat) (ks : List Str) (ms : List (Str × V)) (g : {α : Type} → List α → List α → List α → List α) (hk : kws ≠ []) (hms : ∀ q ∈ ms, q ∈ kws)
    (hrel : ∀ {vs mz zs : List V} {us mv ws : List Value}, Vals vs us → Vals mz mv → Vals zs ws → Vals (g vs mz zs) (g us mv ws))
    (h : ∀ (D : Addr) (doc pm : Value) (an : Option Addr) (cdv ct : Value) (us mv ws : List Value), us.length = n → mv.length = ms.length → ws.length = ks.length →
      KwChain D ((ms.map (·.1)).zip mv) (bindArgs (PySem.W.fnOf x qual params body scope .none (.ref D) doc pm an cdv ct) ⟨us, ks.zip ws⟩) (ps.zip (g us mv ws))) :
    ∃ mv : List Value, KBn K fd ps n ks (fun us ws => g us mv ws) (fun vs zs => g vs (ms.map (·.2)) zs) := by
  obtain ⟨oc, od, dV, kV, doc, pm, an, cdv, ct, osl, rfl, lk, hcd, hD, hK⟩ := F.ex
  rcases hD with ⟨_, rfl⟩ | ⟨e, _⟩
  · rcases hK with e | ⟨D, rfl, hq⟩
    · exact absurd e hk
    · obtain ⟨mv, hl, rk, hks⟩ := kwd_vals (ms := ms) fun q hm => hq q (hms q hm)
      exact ⟨mv, fun s us ws X l1 l2 => BindsTo.of_looks fun M => KwChain.looks X hks (h D doc pm an cdv ct us mv ws l1 hl l2), fun r1 r2 => hrel r1 rk r2⟩
  · exact absurd rfl e
end
section
variable {X : Cx} {CX : CXT} {k : Nat} {f : Addr} {fd : FuncData} {ps ks : List Str} {sp : Sp} {E : XK} {x : Str} {p pos : Pos} {kws : List Keyword} {tk : TA} {g : List Value → List Value → List Value} {gV : List V → List V → List V}
theorem pe_callN0 (F : FnOk X.prog X.w X.K X.mg X.base CX k f fd ps sp) (hr : Room k X.A) (hg : Gl X x) (hm : X.mg x = some (.ref f)) (hk : PySem.W.keepIn X.K (.ref f) = true) (hb : KBn X.K fd ps 0 ks g gV) (hx : Passes CX X E) (hkw : PK X kws tk)
    (hall : (backToKw pos (keywordEach kws X.env)).all (·.1.isSome) = true := by rfl) (hks : (backToKw pos (keywordEach kws X.env)).filterMap (·.1) = ks := by rfl) (hdb : (x == ("__debug__" : Str)) = false := by decide)
    (hpl : ((backTo pos (starEach [] X.env)).any (·.1) || (backToKw pos (keywordEach kws X.env)).any (·.1.isNone)) = false := by rfl) : PE X (.Call (.Name x p) [] kws pos) (tCallN 0 ks.length sp gV E tNil tk) := ⟨fun pins s σ H Q I h => by
  refine wpAny_Call_Name_kw (ld_glob I hg hm (PySem.W.callWith_KW0 (h₀ := X.base) I.ok.mod.kin hk hall ?_ hpl) hdb)
  refine thn (hkw.run pos pins s σ H _ I h) fun ws s2 hz => ?_
  obtain ⟨zs, H2, I2, rz, l1, l2, q2⟩ := hz
  refine ⟨I2.kIn, ?_⟩
  rw [hks]
  exact run_fnN (us := []) (vs := []) F hr hb hx I2 .nil rz rfl l2 q2⟩
end
/-! ### tests -/
section
variable {A B : Prop}
theorem ifT {b : Bool} (h : b = true) (a : A) : if b = true then A else B := by rw [if_pos h]; exact a
theorem ifF {b : Bool} (h : b = false) (a : B) : if b = true then A else B := by rw [h, if_neg Bool.false_ne_true]; exact a
theorem ifB {b : Bool} (h1 : b = true → A) (h2 : b = false → B) : if b = true then A else B := by
  cases b
  · exact ifF rfl (h2 rfl)
  · exact ifT rfl (h1 rfl)
theorem ifNB {b : Bool} (h1 : b = false → A) (h2 : b = true → B) : if (!b) = true then A else B := by
  cases b
  · exact ifT rfl (h1 rfl)
  · exact ifF rfl (h2 rfl)
theorem ifD {p : Prop} [Decidable p] (h1 : p → A) (h2 : ¬ p → B) : if decide p = true then A else B := by
  by_cases h : p
  · exact ifT (decide_eq_true h) (h1 h)
  · exact ifF (decide_eq_false h) (h2 h)
theorem ifN {p : Prop} [Decidable p] (h1 : ¬ p → A) (h2 : p → B) : if (!decide p) = true then A else B := by
  by_cases h : p
  · exact ifF (by rw [decide_eq_true h]; rfl) (h2 h)
  · exact ifT (by rw [decide_eq_false h]; rfl) (h1 h)
theorem ifQ {b : Bool} {p : Prop} [Decidable p] (h : b = decide p) (h1 : p → A) (h2 : ¬ p → B) : if b = true then A else B := by
  rw [h]
  exact ifD h1 h2
theorem ifVI {i j : Int} (h1 : i = j → A) (h2 : i ≠ j → B) : if decide (V.int i = V.int j) = true then A else B := ifD (fun h => h1 (V.int.inj h)) fun h => h2 fun e => h (by rw [e])
theorem ifVIn {i j : Int} (h1 : i ≠ j → A) (h2 : i = j → B) : if (!decide (V.int i = V.int j)) = true then A else B := ifN (fun h => h1 fun e => h (by rw [e])) fun h => h2 (V.int.inj h)
theorem ifVS {i j : Str} (h1 : i = j → A) (h2 : i ≠ j → B) : if decide (V.str i = V.str j) = true then A else B := ifD (fun h => h1 (V.str.inj h)) fun h => h2 fun e => h (by rw [e])
theorem ifVSn {i j : Str} (h1 : i ≠ j → A) (h2 : i = j → B) : if (!decide (V.str i = V.str j)) = true then A else B := ifN (fun h => h1 fun e => h (by rw [e])) fun h => h2 (V.str.inj h)
end
/-! ### isinstance -/
theorem isi {K : PySem.W.Frag} {H : Hp} {Q : VK} {x : V} {t c : String} {b : Bool} (ty : TyX K H x (.type t)) (k : kitB t c = some b) (q : Q (.bl b) H) : rIsi K [x, .ty c] H Q := ⟨x, .ty c, .type t, .type c, b, rfl, .ty c, ty, kit_ty k, q⟩
theorem call_isiK {X : Cx} {K : PySem.W.Frag} (h : X.K = K) : CallR X (.builtin "isinstance") (rIsi K) := h ▸ call_isi
theorem ki_int_str : kitB "int" "str" = some false := by decide +kernel
theorem ki_int_int : kitB "int" "int" = some true := by decide +kernel
theorem ki_int_bool : kitB "int" "bool" = some false := by decide +kernel
theorem ki_int_list : kitB "int" "list" = some false := by decide +kernel
theorem ki_int_tuple : kitB "int" "tuple" = some false := by decide +kernel
theorem ki_int_dict : kitB "int" "dict" = some false := by decide +kernel
theorem ki_str_str : kitB "str" "str" = some true := by decide +kernel
theorem ki_str_int : kitB "str" "int" = some false := by decide +kernel
theorem ki_str_bool : kitB "str" "bool" = some false := by decide +kernel
theorem ki_str_list : kitB "str" "list" = some false := by decide +kernel
theorem ki_str_tuple : kitB "str" "tuple" = some false := by decide +kernel
theorem ki_str_dict : kitB "str" "dict" = some false := by decide +kernel
theorem ki_bl_str : kitB "bool" "str" = some false := by decide +kernel
theorem ki_bl_int : kitB "bool" "int" = some true := by decide +kernel
theorem ki_bl_bool : kitB "bool" "bool" = some true := by decide +kernel
theorem ki_bl_list : kitB "bool" "list" = some false := by decide +kernel
theorem ki_bl_tuple : kitB "bool" "tuple" = some false := by decide +kernel
theorem ki_bl_dict : kitB "bool" "dict" = some false := by decide +kernel
theorem ki_non_str : kitB "NoneType" "str" = some false := by decide +kernel
theorem ki_non_int : kitB "NoneType" "int" = some false := by decide +kernel
theorem ki_non_bool : kitB "NoneType" "bool" = some false := by decide +kernel
theorem ki_non_list : kitB "NoneType" "list" = some false := by decide +kernel
theorem ki_non_tuple : kitB "NoneType" "tuple" = some false := by decide +kernel
theorem ki_non_dict : kitB "NoneType" "dict" = some false := by decide +kernel
theorem ki_lst_str : kitB "list" "str" = some false := by decide +kernel
theorem ki_lst_int : kitB "list" "int" = some false := by decide +kernel
theorem ki_lst_bool : kitB "list" "bool" = some false := by decide +kernel
theorem ki_lst_list : kitB "list" "list" = some true := by decide +kernel
theorem ki_lst_tuple : kitB "list" "tuple" = some false := by decide +kernel
theorem ki_lst_dict : kitB "list" "dict" = some false := by decide +kernel
theorem ki_tup_str : kitB "tuple" "str" = some false := by decide +kernel
theorem ki_tup_int : kitB "tuple" "int" = some false := by decide +kernel
theorem ki_tup_bool : kitB "tuple" "bool" = some false := by decide +kernel
theorem ki_tup_list : kitB "tuple" "list" = some false := by decide +kernel
theorem ki_tup_tuple : kitB "tuple" "tuple" = some true := by decide +kernel
theorem ki_tup_dict : kitB "tuple" "dict" = some false := by decide +kernel
theorem ki_dK_str : kitB "dict" "str" = some false := by decide +kernel
theorem ki_dK_int : kitB "dict" "int" = some false := by decide +kernel
theorem ki_dK_bool : kitB "dict" "bool" = some false := by decide +kernel
theorem ki_dK_list : kitB "dict" "list" = some false := by decide +kernel
theorem ki_dK_tuple : kitB "dict" "tuple" = some false := by decide +kernel
theorem ki_dK_dict : kitB "dict" "dict" = some true := by decide +kernel
/-- the generator of a law's numbers: at b a list of three numbers, the last at most n -/
def bagO (x y z : Int) : HO := .lst [.int x, .int y, .int z]
structure BagOk (n : Nat) (x y z : Int) : Prop where
  x0 : 0 ≤ x
  y0 : 0 ≤ y
  y1 : y < 2147483648
  z0 : 0 ≤ z
  z1 : z ≤ (n : Int)
theorem BagOk.mono {n m : Nat} {x y z : Int} (h : BagOk n x y z) (e : n ≤ m) : BagOk m x y z := ⟨h.x0, h.y0, h.y1, h.z0, by have := h.z1; omega⟩
/-- take(bag, k): a number below k; the bag is changed, by one count at the most -/
def spTake : Sp := fun vs H Q _ => ∃ (b : Addr) (k : Int) (n : Nat) (x y z : Int), vs = [.ref b, .int k] ∧ H b = some (bagO x y z) ∧ BagOk n x y z ∧ n < 1000000 ∧ 0 < k ∧ k < 1073741824 ∧
  ∀ (d x' y' z' : Int) (H' : Hp), 0 ≤ d → d < k → BagOk (n + 1) x' y' z' → Keep [b] H H' → H' b = some (bagO x' y' z') → Q (.int d) H'
theorem atI_in {α : Type} {xs : List α} {d : Int} (h0 : 0 ≤ d) (h1 : d < (xs.length : Int)) : ∃ v, atI xs d = some v ∧ v ∈ xs := by
  obtain ⟨k, rfl⟩ := Int.eq_ofNat_of_zero_le h0
  have hk : k < xs.length := by omega
  exact ⟨xs[k], atI_nat (List.getElem?_eq_getElem hk), List.getElem_mem hk⟩
theorem size_ok {n : Nat} (h : n ≤ 1000000) : n < sizeLine := Nat.lt_of_le_of_lt h (by decide)
theorem size_le {n : Nat} (h : n ≤ 1000000) : n ≤ sizeLine := Nat.le_of_lt (size_ok h)
/-! ### texts by their codes -/
theorem len_app (x y : Str) : (x ++ y).length = x.length + y.length := by rw [len_tl, len_tl, len_tl, tl_append, List.length_append]
theorem joinL_nil : ∀ ps : List (List Nat), joinL [] ps = ps.flatten
  | [] => rfl
  | [p] => by simp [joinL]
  | p :: q :: r => by
    have ih := joinL_nil (q :: r)
    show p ++ ([] ++ joinL [] (q :: r)) = _
    rw [ih]
    simp
theorem tl_joinE (ss : List Str) : tl (Txt.join (Str.ofString "") ss) = (ss.map tl).flatten := by
  rw [join_eq, tl_join, show tl (Str.ofString "") = [] by decide +kernel, joinL_nil]
theorem sum_one : ∀ {ss : List Str}, (∀ s ∈ ss, s.length = 1) → (ss.map (·.length)).sum = ss.length
  | [], _ => rfl
  | s :: r, h => by
    rw [List.map_cons, List.sum_cons, sum_one fun t ht => h t (List.mem_cons_of_mem _ ht), h s List.mem_cons_self, List.length_cons]
    omega
theorem flat_one : ∀ {ss : List Str}, (∀ s ∈ ss, s.length = 1) → (ss.map tl).flatten.length = ss.length
  | [], _ => rfl
  | s :: r, h => by
    have h1 := h s List.mem_cons_self
    rw [len_tl] at h1
    rw [List.map_cons, List.flatten_cons, List.length_append, flat_one fun t ht => h t (List.mem_cons_of_mem _ ht), List.length_cons, h1]
    omega
theorem join_one {ss : List Str} (h : ∀ s ∈ ss, s.length = 1) : (Txt.join (Str.ofString "") ss).length = ss.length := by rw [len_tl, tl_joinE, flat_one h]
theorem tl_cutS (z : Str) (lo hi : Option Int) : tl (cutS z lo hi) = ((tl z).drop (HT.sIx z.length 0 lo)).take (HT.sIx z.length z.length hi - HT.sIx z.length 0 lo) := rfl
theorem cutS_len (z : Str) (lo hi : Option Int) : (cutS z lo hi).length ≤ z.length := by
  rw [len_tl, tl_cutS, List.length_take, List.length_drop, len_tl z]
  omega
theorem starts_one (x : Str) (c : Nat) : Txt.startswith x ⟨#[c]⟩ = true ↔ (tl x)[0]? = some c := by
  unfold Txt.startswith
  rw [Bool.and_eq_true, decide_eq_true_eq]
  exact PySem.StrLaws.subAt_one x c 0
/-! ### texts of plain signs -/
def Asc (s : Str) : Prop := ∀ c ∈ tl s, c < 128
theorem Asc.app {x y : Str} (a : Asc x) (b : Asc y) : Asc (x ++ y) := fun c hc => by
  rw [tl_append] at hc
  rcases List.mem_append.mp hc with h | h
  · exact a c h
  · exact b c h
theorem Asc.cut {x : Str} (a : Asc x) (lo hi : Option Int) : Asc (cutS x lo hi) := fun c hc => a c (List.mem_of_mem_drop (List.mem_of_mem_take (by rw [tl_cutS] at hc; exact hc)))
theorem Asc.one {c : Nat} (h : c < 128) : Asc ⟨#[c]⟩ := fun d hd => by
  have : d = c := by simpa using hd
  omega
theorem Asc.of {x : Str} (h : (tl x).all (fun c => decide (c < 128)) = true) : Asc x := fun c hc => by simpa using List.all_eq_true.mp h c hc
theorem Asc.joined {S : List Nat} : ∀ {ps : List (List Nat)}, (∀ c ∈ S, c < 128) → (∀ p ∈ ps, ∀ c ∈ p, c < 128) → ∀ c ∈ joinL S ps, c < 128
  | [], _, _, c, h => by simp [joinL] at h
  | [p], _, hp, c, h => hp p List.mem_cons_self c h
  | p :: q :: r, hS, hp, c, h => by
    rcases List.mem_append.mp (show c ∈ p ++ (S ++ joinL S (q :: r)) from h) with h | h
    · exact hp p List.mem_cons_self c h
    · rcases List.mem_append.mp h with h | h
      · exact hS c h
      · exact Asc.joined hS (fun t ht => hp t (List.mem_cons_of_mem _ ht)) c h
theorem Asc.join {y : Str} {ss : List Str} (a : Asc y) (h : ∀ s ∈ ss, Asc s) : Asc (Txt.join y ss) := by
  unfold Asc
  rw [join_eq, tl_join]
  refine Asc.joined a fun p hp => ?_
  obtain ⟨s, hs, rfl⟩ := List.mem_map.mp hp
  exact h s hs
theorem joinL_len (S : List Nat) : ∀ (ps : List (List Nat)), (joinL S ps).length ≤ (ps.map (·.length)).sum + ps.length * S.length
  | [] => by simp [joinL]
  | [p] => by simp [joinL]
  | p :: q :: r => by
    have ih := joinL_len S (q :: r)
    show (p ++ (S ++ joinL S (q :: r))).length ≤ _
    rw [List.length_append, List.length_append, List.map_cons, List.sum_cons, List.length_cons, Nat.add_one_mul]
    omega
theorem join_len (y : Str) (ss : List Str) : (Txt.join y ss).length ≤ (ss.map (·.length)).sum + ss.length * y.length := by
  have h := joinL_len (tl y) (ss.map tl)
  rw [join_eq, len_tl, tl_join, len_tl y]
  rw [List.length_map, List.map_map] at h
  rw [show ss.map (fun x => x.length) = ss.map ((fun x => x.length) ∘ tl) from List.map_congr_left fun s _ => len_tl s]
  exact h
theorem sum_le {ss : List Str} {k : Nat} (h : ∀ s ∈ ss, s.length ≤ k) : (ss.map (·.length)).sum ≤ ss.length * k := by
  induction ss with
  | nil => simp
  | cons s r ih =>
    rw [List.map_cons, List.sum_cons, List.length_cons, Nat.add_one_mul]
    have h1 := h s List.mem_cons_self
    have h2 := ih fun t ht => h t (List.mem_cons_of_mem _ ht)
    omega
theorem str_ok {s : Str} (a : Asc s) : PyData.strOk s = true := by
  unfold PyData.strOk
  rw [show s.cps.all (fun x => decide (x < 0x110000)) = (tl s).all (fun x => decide (x < 0x110000)) by simp]
  exact List.all_eq_true.mpr fun c hc => decide_eq_true (Nat.lt_trans (a c hc) (by decide))
def dStrs (ws : List Str) : PyData := .list (ws.map .str)
theorem lay_strs : ∀ {ws : List Str}, (∀ s ∈ ws, Asc s) → PyData.canLayAll0 (ws.map .str) = true
  | [], _ => rfl
  | s :: r, h => by
    rw [List.map_cons, PyData.canLayAll0, PyData.canLay0, str_ok (h s List.mem_cons_self), lay_strs fun t ht => h t (List.mem_cons_of_mem _ ht)]
    rfl
theorem depth_strs : ∀ ws : List Str, PyData.depthAll (ws.map .str) = 0
  | [] => rfl
  | s :: r => by rw [List.map_cons, PyData.depthAll, PyData.depth, depth_strs r]; rfl
theorem shaped_strs {ws : List Str} (h : ∀ s ∈ ws, Asc s) : SeqAt.shaped (dStrs ws) = true := by
  unfold SeqAt.shaped dStrs
  rw [PyData.canLay0, lay_strs h, PyData.depth, depth_strs]
  rfl
theorem dpAll_strs {K : PySem.W.Frag} {H : Hp} : ∀ ws : List Str, DpAll K H (ws.map V.str) (ws.map .str)
  | [] => .nil
  | s :: r => .cons (.str s) (dpAll_strs r)
theorem dp_strs {K : PySem.W.Frag} {H : Hp} {a : Addr} {ws : List Str} (h : SqL K H a (ws.map V.str)) : Dp K H (.ref a) (dStrs ws) := .lst h (dpAll_strs ws)
theorem eqv_strs : ∀ ws : List Str, PyData.eqvAll (ws.map .str) (ws.map .str) = true
  | [] => rfl
  | s :: r => by rw [List.map_cons, PyData.eqvAll, eqv_strs r, PyData.eqv]; simp
theorem eqv_dstrs (ws : List Str) : PyData.eqv (dStrs ws) (dStrs ws) = true := by
  unfold dStrs
  rw [PyData.eqv, eqv_strs]
theorem in_strs (x : Str) : ∀ ws : List Str, inV (.str x) (ws.map V.str) = decide (x ∈ ws)
  | [] => rfl
  | s :: r => by
    have ih := in_strs x r
    unfold inV at ih ⊢
    rw [List.map_cons, List.any_cons, ih]
    show ((s == x) || decide (x ∈ r)) = _
    by_cases h : s = x
    · subst h; simp
    · simp [h, Ne.symm h]
theorem flat_strs (ws : List Str) : (ws.map V.str).all flatV = true := by
  rw [List.all_map]
  exact List.all_eq_true.mpr fun _ _ => rfl
/-- keywords at a call of a def without defaults -/
theorem kbF {K : PySem.W.Frag} {x qual : Str} {st : Stmt} {f : Addr} {fd : FuncData} {ps : List Str} (F : Fun K x qual st f fd) (n : Nat) (ks : List Str) (g : {α : Type} → List α → List α → List α)
    (hrel : ∀ {vs zs : List V} {us ws : List Value}, Vals vs us → Vals zs ws → Vals (g vs zs) (g us ws))
    (h : ∀ (kV doc pm : Value) (an : Option Addr) (cdv ct : Value) (us ws : List Value), us.length = n → ws.length = ks.length →
      bindArgs (PySem.W.fnOf x qual (defArgs st) (defBody st) (defScope st) .none kV doc pm an cdv ct) ⟨us, ks.zip ws⟩ = pure (ps.zip (g us ws))) : KBn K fd ps n ks (fun us ws => g us ws) (fun vs zs => g vs zs) := by
  obtain ⟨oc, od, kV, doc, pm, an, cdv, ct, osl, rfl, lk, hcd⟩ := F.ex
  exact ⟨fun s us ws X l1 l2 => .of_eq (h kV doc pm an cdv ct us ws l1 l2), fun r1 r2 => hrel r1 r2⟩
/-- isinstance(x, (a, b)) -/
theorem kit2 {K : PySem.W.Frag} {t a b : String} {r1 r2 : Bool} (h1 : kitB t a = some r1) (h2 : kitB t b = some r2) : PySem.W.kitAny K (.type t) [.type a, .type b] = some (r1 || r2) := by
  refine kitAny_cons (kit_ty h1) (fun e => ?_) (fun e => by rw [e]; rfl)
  subst e
  refine kitAny_cons (kit_ty h2) (fun e => by rw [e]; rfl) (fun e => by rw [e]; rfl)
theorem eqv_nil : ∀ ws : List Str, PyData.eqv (dStrs ws) (dStrs []) = decide (ws = [])
  | [] => rfl
  | s :: r => rfl
/-! ### signs as texts -/
def sg (l : List Nat) : List Str := l.map fun d => ⟨#[d]⟩
theorem sg_one {l : List Nat} : ∀ s ∈ sg l, s.length = 1 := fun s hs => by
  obtain ⟨d, _, rfl⟩ := List.mem_map.mp hs
  rfl
theorem sg_len (l : List Nat) : (sg l).length = l.length := List.length_map _
theorem sg_asc {l : List Nat} (h : ∀ c ∈ l, c < 128) : ∀ s ∈ sg l, Asc s := fun s hs => by
  obtain ⟨d, hd, rfl⟩ := List.mem_map.mp hs
  exact Asc.one (h d hd)
theorem tl_join_sg : ∀ l : List Nat, ((sg l).map tl).flatten = l
  | [] => rfl
  | c :: r => by
    have ih := tl_join_sg r
    show ([c] ++ ((sg r).map tl).flatten) = c :: r
    rw [ih]
    rfl
theorem sg_app (l : List Nat) (c : Nat) : (sg (l ++ [c])).map V.str = (sg l).map V.str ++ [.str ⟨#[c]⟩] := by
  unfold sg
  rw [List.map_append, List.map_append]
  rfl
theorem chr_inj {c d : Nat} (h : (⟨#[c]⟩ : Str) = ⟨#[d]⟩) : c = d := by
  have := congrArg tl h
  simpa using this
theorem ifC {A B : Prop} {c d : Nat} (h1 : c = d → A) (h2 : c ≠ d → B) : if decide (V.str ⟨#[c]⟩ = V.str ⟨#[d]⟩) = true then A else B := ifVS (fun h => h1 (chr_inj h)) fun h => h2 fun e => h (by rw [e])
theorem ifCn {A B : Prop} {c d : Nat} (h1 : c ≠ d → A) (h2 : c = d → B) : if (!decide (V.str ⟨#[c]⟩ = V.str ⟨#[d]⟩)) = true then A else B := ifVSn (fun h => h1 fun e => h (by rw [e])) fun h => h2 (chr_inj h)
theorem filt_in {pre : List Nat} {c d : Nat} (h : d ≠ c) : (pre ++ [d]).filter (fun x => decide (x ≠ c)) = pre.filter (fun x => decide (x ≠ c)) ++ [d] := by
  rw [List.filter_append, List.filter_cons, if_pos (by simpa using h)]
  rfl
theorem filt_out {pre : List Nat} {c d : Nat} (h : d = c) : (pre ++ [d]).filter (fun x => decide (x ≠ c)) = pre.filter (fun x => decide (x ≠ c)) := by
  rw [List.filter_append, List.filter_cons, if_neg (by simpa using h)]
  simp
theorem filt_asc {l : List Nat} {p : Nat → Bool} (h : ∀ c ∈ l, c < 128) : ∀ c ∈ l.filter p, c < 128 := fun c hc => h c (List.mem_filter.mp hc).1
theorem tl_joined_sg (l : List Nat) : tl (Txt.join (Str.ofString "") (sg l)) = l := by rw [tl_joinE, tl_join_sg]
/-! ### a text split at a sign -/
theorem split_tl (s : Str) {c : Nat} (h : c < 256) : (Txt.split s ⟨#[c]⟩).map tl = spl [c] 0 [] (tl s) := split_spl s ⟨#[c]⟩ (by simp) (kind_ok (by simpa using h))
theorem spl_asc : ∀ (l acc : List Nat) (c : Nat), (∀ d ∈ l, d < 128) → (∀ d ∈ acc, d < 128) → ∀ p ∈ spl [c] 0 acc l, ∀ d ∈ p, d < 128
  | [], acc, c, _, ha, p, hp, d, hd => by
    rw [spl_nil] at hp
    rw [List.mem_singleton.mp hp] at hd
    exact ha d hd
  | x :: r, acc, c, hl, ha, p, hp, d, hd => by
    have hr : ∀ d ∈ r, d < 128 := fun d h => hl d (List.mem_cons_of_mem _ h)
    by_cases e : pre [c] (x :: r) = true
    · rw [spl_hit e] at hp
      rcases List.mem_cons.mp hp with rfl | hp
      · exact ha d hd
      · exact spl_asc r [] c hr (fun _ h => by simp at h) p hp d hd
    · rw [spl_miss (by simpa using e)] at hp
      refine spl_asc r (acc ++ [x]) c hr (fun d h => ?_) p hp d hd
      rcases List.mem_append.mp h with h | h
      · exact ha d h
      · rw [List.mem_singleton.mp h]; exact hl x List.mem_cons_self
theorem split_asc {s : Str} {c : Nat} (h : c < 256) (a : Asc s) : ∀ w ∈ Txt.split s ⟨#[c]⟩, Asc w := fun w hw => by
  have : tl w ∈ (Txt.split s ⟨#[c]⟩).map tl := List.mem_map_of_mem hw
  rw [split_tl s h] at this
  exact spl_asc (tl s) [] c a (fun _ h => by simp at h) _ this
theorem spl_len : ∀ (l acc : List Nat) (c : Nat), (spl [c] 0 acc l).length ≤ l.length + 1
  | [], acc, c => by rw [spl_nil]; simp
  | x :: r, acc, c => by
    by_cases e : pre [c] (x :: r) = true
    · rw [spl_hit e, List.length_cons, List.length_cons]
      have := spl_len r [] c
      exact Nat.succ_le_succ this
    · rw [spl_miss (by simpa using e), List.length_cons]
      have := spl_len r (acc ++ [x]) c
      omega
theorem split_len {s : Str} {c : Nat} (h : c < 256) : (Txt.split s ⟨#[c]⟩).length ≤ s.length + 1 := by
  have := spl_len (tl s) [] c
  rw [← split_tl s h, List.length_map] at this
  rw [len_tl]
  exact this
theorem pre_one {c x : Nat} {r : List Nat} : pre [c] (x :: r) = decide (x = c) := by
  unfold pre
  by_cases h : x = c <;> simp [h]
/-! ### text * number -/
theorem op_mul_str {X : Cx} : OpR X (binaryOp .Mult) (fun x y H Q => ∃ i j, x = .str i ∧ y = .int j ∧ (0 ≤ j ∧ j ≤ 10000 ∧ i.length ≤ 1000) ∧ Q (.str (Txt.mul i j)) H) := fun pins s σ H x y v u Q I rx ry h => by
  obtain ⟨i, j, rfl, rfl, ⟨h0, h1, h2⟩, q⟩ := h
  obtain ⟨t, rfl⟩ := rx
  obtain ⟨t', rfl⟩ := ry
  refine SB.mul ⟨?_, fun h3 h4 => ?_, fun h3 h4 => ?_⟩ fun t' k => ⟨.str (Txt.mul i j), H, I.tok _, ⟨_, rfl⟩, q⟩
  · simp
    omega
  · have h5 : (i.length : Int) * j ≤ 1000 * 10000 := Int.mul_le_mul (by omega) h1 h0 (by decide)
    have h6 : (i.length : Int) ≤ (2 ^ 63 - 1) / j := Int.le_ediv_of_mul_le (by omega) (by omega)
    omega
  · have h5 : i.length * j.toNat ≤ 1000 * 10000 := Nat.mul_le_mul h2 (by omega)
    have h6 : i.length * j.toNat ≤ sizeLine := Nat.le_trans h5 (by decide)
    unfold Builtin.Str.tooLong
    exact decide_eq_false (by omega)
theorem fold_cps (a : Array Nat) : ∀ (k : Nat) (acc : Array Nat), ((List.replicate k a).foldl (fun x y => x ++ y) acc).toList = acc.toList ++ (List.replicate k a.toList).flatten
  | 0, acc => by simp
  | k + 1, acc => by
    rw [List.replicate_succ, List.foldl_cons, fold_cps a k, List.replicate_succ, List.flatten_cons, Array.toList_append, List.append_assoc]
theorem flat_nil : ∀ k : Nat, (List.replicate k ([] : List Nat)).flatten = []
  | 0 => rfl
  | k + 1 => by rw [List.replicate_succ, List.flatten_cons, flat_nil k]; rfl
theorem tl_mul (x : Str) (n : Int) : tl (Txt.mul x n) = (List.replicate n.toNat (tl x)).flatten := by
  unfold Txt.mul
  split
  · rename_i h
    rw [show n.toNat = 0 by omega]
    rfl
  · split
    · rename_i h1 h2
      rcases Bool.or_eq_true_iff.mp h2 with h | h
      · have : n = 1 := by simpa using h
        subst this
        simp
      · have h3 : x.length = 0 := by simpa using h
        rw [len_tl] at h3
        rw [List.length_eq_zero_iff.mp h3, flat_nil]
    · show ((List.replicate n.toNat x.cps).foldl (fun x y => x ++ y) #[]).toList = _
      rw [fold_cps]
      rfl
theorem mul_len (x : Str) (n : Int) : (Txt.mul x n).length = x.length * n.toNat := by
  rw [len_tl, tl_mul, List.length_flatten, List.map_replicate, List.sum_replicate_nat, len_tl, Nat.mul_comm]
theorem Asc.mul {x : Str} (a : Asc x) (n : Int) : Asc (Txt.mul x n) := fun c hc => by
  rw [tl_mul] at hc
  obtain ⟨l, hl, hc⟩ := List.mem_flatten.mp hc
  rw [List.eq_of_mem_replicate hl] at hc
  exact a c hc
/-! ### loops by what is behind -/
section
variable {g : TG} {tb : TS} {D : Ends} {σ : L2.St} {H : Hp}
theorem for_str {s : Str} (Pv : List Nat → L2.St → Hp → Prop) (h0 : Pv [] σ H)
    (hs : ∀ pre c post σ H, tl s = pre ++ c :: post → Pv pre σ H → g (.str ⟨#[c]⟩) σ H fun σ2 H2 => tb { D with nx := Pv (pre ++ [c]), ct := Pv (pre ++ [c]), bk := D.nx } σ2 H2) (hd : ∀ σ H, Pv (tl s) σ H → D.nx σ H) :
    ∃ W : Nat → Nat → L2.St → Hp → Prop, (∃ m, W 0 m σ H) ∧ ∀ i m σ H, W i m σ H →
      ((Its s).stop i H ∧ D.nx σ H) ∨ ((Its s).go i H ∧ ∃ N : L2.St → Hp → Prop, (∀ σ' H', N σ' H' → ∃ m', m' < m ∧ W (i + 1) m' σ' H') ∧ ∀ x H', (Its s).yld i H x H' → g x σ H' fun σ2 H2 => tb { D with nx := N, ct := N, bk := D.nx } σ2 H2) := by
  have hsz : s.cps.size = (tl s).length := by simp
  refine for_it walk_str (fun i σ H => Pv ((tl s).take i) σ H) (by simpa using h0) (fun _ _ _ _ _ => True.intro) ?_ (fun σ H p => hd σ H (by rw [hsz, List.take_length] at p; exact p))
  rintro i x σ H H' hi p ⟨rfl, c, hc, rfl⟩
  have hc' : (tl s)[i]? = some c := by simpa using hc
  have hl : i < (tl s).length := by omega
  have e : tl s = (tl s).take i ++ c :: (tl s).drop (i + 1) := by
    have h2 : (tl s)[i] = c := by rw [List.getElem?_eq_getElem hl] at hc'; exact Option.some.inj hc'
    rw [← h2, ← List.drop_eq_getElem_cons hl, List.take_append_drop]
  have e2 : (tl s).take (i + 1) = (tl s).take i ++ [c] := by rw [List.take_add_one, hc']; rfl
  rw [e2]
  exact hs _ c _ σ _ e p
theorem for_rg {lo : Int} {n : Nat} (Pv : Nat → L2.St → Hp → Prop) (h0 : Pv 0 σ H)
    (hs : ∀ i σ H, i < n → Pv i σ H → g (.int (lo + i)) σ H fun σ2 H2 => tb { D with nx := Pv (i + 1), ct := Pv (i + 1), bk := D.nx } σ2 H2) (hd : ∀ σ H, Pv n σ H → D.nx σ H) :
    ∃ W : Nat → Nat → L2.St → Hp → Prop, (∃ m, W 0 m σ H) ∧ ∀ i m σ H, W i m σ H →
      ((Itr lo n).stop i H ∧ D.nx σ H) ∨ ((Itr lo n).go i H ∧ ∃ N : L2.St → Hp → Prop, (∀ σ' H', N σ' H' → ∃ m', m' < m ∧ W (i + 1) m' σ' H') ∧ ∀ x H', (Itr lo n).yld i H x H' → g x σ H' fun σ2 H2 => tb { D with nx := N, ct := N, bk := D.nx } σ2 H2) := for_range Pv h0 hs hd
theorem for_li {K : PySem.W.Frag} {a : Addr} {xs : List V} (Pv : List V → L2.St → Hp → Prop) (h0 : Pv [] σ H) (hl : ∀ pre post σ H, xs = pre ++ post → Pv pre σ H → SqL K H a xs)
    (hs : ∀ pre x post σ H, xs = pre ++ x :: post → Pv pre σ H → g x σ H fun σ2 H2 => tb { D with nx := Pv (pre ++ [x]), ct := Pv (pre ++ [x]), bk := D.nx } σ2 H2) (hd : ∀ σ H, Pv xs σ H → D.nx σ H) :
    ∃ W : Nat → Nat → L2.St → Hp → Prop, (∃ m, W 0 m σ H) ∧ ∀ i m σ H, W i m σ H →
      ((Itl K a).stop i H ∧ D.nx σ H) ∨ ((Itl K a).go i H ∧ ∃ N : L2.St → Hp → Prop, (∀ σ' H', N σ' H' → ∃ m', m' < m ∧ W (i + 1) m' σ' H') ∧ ∀ x H', (Itl K a).yld i H x H' → g x σ H' fun σ2 H2 => tb { D with nx := N, ct := N, bk := D.nx } σ2 H2) := by
  refine for_it (walk_list (xs := xs)) (fun i σ H => Pv (xs.take i) σ H) (by simpa using h0) (fun i σ H _ p => hl (xs.take i) (xs.drop i) σ H (List.take_append_drop i xs).symm p) ?_ (fun σ H p => hd σ H (by rw [List.take_length] at p; exact p))
  rintro i x σ H H' hi p ⟨rfl, hc⟩
  have e : xs = xs.take i ++ x :: xs.drop (i + 1) := by
    have h2 : xs[i] = x := by rw [List.getElem?_eq_getElem hi] at hc; exact Option.some.inj hc
    rw [← h2, ← List.drop_eq_getElem_cons hi, List.take_append_drop]
  have e2 : xs.take (i + 1) = xs.take i ++ [x] := by rw [List.take_add_one, hc]; rfl
  rw [e2]
  exact hs _ x _ σ _ e p
end
section
variable {g : TG} {tt : TT} {te : TE} {vs : List Nat} {σ : L2.St} {H1 : Hp} {D : Addr} {Qd : Hp → Prop}
theorem lc_rg {lo : Int} {n : Nat} (Pv : Nat → Hp → Prop) (h0 : Pv 0 (upd H1 D (.lst [])))
    (hs : ∀ i H, i < n → Pv i H → g (.int (lo + i)) (wipe σ vs) H fun σ2 H2 => wipe σ2 vs = wipe σ vs ∧ tt σ2 H2 fun b H3 =>
      if b = true then te σ2 H3 fun y H4 => ∃ acc, H4 D = some (.lst acc) ∧ acc.length < sizeLine ∧ Pv (i + 1) (upd H4 D (.lst (acc ++ [y]))) else Pv (i + 1) H3) (hd : ∀ H, Pv n H → Qd H) :
    ∃ W : Nat → Nat → Hp → Prop, (∃ m, W 0 m (upd H1 D (.lst []))) ∧ ∀ i m H, W i m H →
      ((Itr lo n).stop i H ∧ Qd H) ∨ ((Itr lo n).go i H ∧ ∃ Nx : Hp → Prop, (∀ H', Nx H' → ∃ m', m' < m ∧ W (i + 1) m' H') ∧ ∀ x H', (Itr lo n).yld i H x H' → g x (wipe σ vs) H' fun σ2 H2 => wipe σ2 vs = wipe σ vs ∧ tt σ2 H2 fun b H3 =>
        if b = true then te σ2 H3 fun y H4 => ∃ acc, H4 D = some (.lst acc) ∧ acc.length < sizeLine ∧ Nx (upd H4 D (.lst (acc ++ [y]))) else Nx H3) := lc_range Pv h0 hs hd
theorem lc_str {s : Str} (Pv : List Nat → Hp → Prop) (h0 : Pv [] (upd H1 D (.lst [])))
    (hs : ∀ pre c post H, tl s = pre ++ c :: post → Pv pre H → g (.str ⟨#[c]⟩) (wipe σ vs) H fun σ2 H2 => wipe σ2 vs = wipe σ vs ∧ tt σ2 H2 fun b H3 =>
      if b = true then te σ2 H3 fun y H4 => ∃ acc, H4 D = some (.lst acc) ∧ acc.length < sizeLine ∧ Pv (pre ++ [c]) (upd H4 D (.lst (acc ++ [y]))) else Pv (pre ++ [c]) H3) (hd : ∀ H, Pv (tl s) H → Qd H) :
    ∃ W : Nat → Nat → Hp → Prop, (∃ m, W 0 m (upd H1 D (.lst []))) ∧ ∀ i m H, W i m H →
      ((Its s).stop i H ∧ Qd H) ∨ ((Its s).go i H ∧ ∃ Nx : Hp → Prop, (∀ H', Nx H' → ∃ m', m' < m ∧ W (i + 1) m' H') ∧ ∀ x H', (Its s).yld i H x H' → g x (wipe σ vs) H' fun σ2 H2 => wipe σ2 vs = wipe σ vs ∧ tt σ2 H2 fun b H3 =>
        if b = true then te σ2 H3 fun y H4 => ∃ acc, H4 D = some (.lst acc) ∧ acc.length < sizeLine ∧ Nx (upd H4 D (.lst (acc ++ [y]))) else Nx H3) := by
  have hsz : s.cps.size = (tl s).length := by simp
  refine lc_it walk_str (fun i H => Pv ((tl s).take i) H) (by simpa using h0) (fun _ _ _ _ => True.intro) ?_ (fun H p => hd H (by rw [hsz, List.take_length] at p; exact p))
  rintro i x H H' hi p ⟨rfl, c, hc, rfl⟩
  have hc' : (tl s)[i]? = some c := by simpa using hc
  have hl : i < (tl s).length := by omega
  have e : tl s = (tl s).take i ++ c :: (tl s).drop (i + 1) := by
    have h2 : (tl s)[i] = c := by rw [List.getElem?_eq_getElem hl] at hc'; exact Option.some.inj hc'
    rw [← h2, ← List.drop_eq_getElem_cons hl, List.take_append_drop]
  have e2 : (tl s).take (i + 1) = (tl s).take i ++ [c] := by rw [List.take_add_one, hc']; rfl
  rw [e2]
  exact hs _ c _ _ e p
theorem lc_li {K : PySem.W.Frag} {a : Addr} {xs : List V} (Pv : List V → Hp → Prop) (h0 : Pv [] (upd H1 D (.lst []))) (hl : ∀ pre post H, xs = pre ++ post → Pv pre H → SqL K H a xs)
    (hs : ∀ pre x post H, xs = pre ++ x :: post → Pv pre H → g x (wipe σ vs) H fun σ2 H2 => wipe σ2 vs = wipe σ vs ∧ tt σ2 H2 fun b H3 =>
      if b = true then te σ2 H3 fun y H4 => ∃ acc, H4 D = some (.lst acc) ∧ acc.length < sizeLine ∧ Pv (pre ++ [x]) (upd H4 D (.lst (acc ++ [y]))) else Pv (pre ++ [x]) H3) (hd : ∀ H, Pv xs H → Qd H) :
    ∃ W : Nat → Nat → Hp → Prop, (∃ m, W 0 m (upd H1 D (.lst []))) ∧ ∀ i m H, W i m H →
      ((Itl K a).stop i H ∧ Qd H) ∨ ((Itl K a).go i H ∧ ∃ Nx : Hp → Prop, (∀ H', Nx H' → ∃ m', m' < m ∧ W (i + 1) m' H') ∧ ∀ x H', (Itl K a).yld i H x H' → g x (wipe σ vs) H' fun σ2 H2 => wipe σ2 vs = wipe σ vs ∧ tt σ2 H2 fun b H3 =>
        if b = true then te σ2 H3 fun y H4 => ∃ acc, H4 D = some (.lst acc) ∧ acc.length < sizeLine ∧ Nx (upd H4 D (.lst (acc ++ [y]))) else Nx H3) := by
  refine lc_it (walk_list (xs := xs)) (fun i H => Pv (xs.take i) H) (by simpa using h0) (fun i H _ p => hl (xs.take i) (xs.drop i) H (List.take_append_drop i xs).symm p) ?_ (fun H p => hd H (by rw [List.take_length] at p; exact p))
  rintro i x H H' hi p ⟨rfl, hc⟩
  have e : xs = xs.take i ++ x :: xs.drop (i + 1) := by
    have h2 : xs[i] = x := by rw [List.getElem?_eq_getElem hi] at hc; exact Option.some.inj hc
    rw [← h2, ← List.drop_eq_getElem_cons hi, List.take_append_drop]
  have e2 : xs.take (i + 1) = xs.take i ++ [x] := by rw [List.take_add_one, hc]; rfl
  rw [e2]
  exact hs _ x _ _ e p
end
end FR
set_option Elab.async false
set_option linter.all false
set_option maxRecDepth 100000
/-! names and paths; defs with a star parameter -/
namespace FR
open PySem PySem.Spec PyProof.Rows L2 TL
theorem Keep.trans {M : List Addr} {H H1 H2 : Hp} (a : Keep M H H1) (b : Keep M H1 H2) : Keep M H H2 := fun p o e hp => b p o (a p o e hp) hp
theorem Keep.nil {M : List Addr} {H H1 : Hp} (a : Keep [] H H1) : Keep M H H1 := fun p o e _ => a p o e (by simp)
theorem Ow.sel {H0 H : Hp} {M : List Addr} {L L' : List (Addr × HO)} (W : Ow H0 M H L) (h : L'.Sublist L) : Ow H0 M H L' := ⟨W.keep, fun p hp => W.has p (h.subset hp), (h.map _).nodup W.nd, fun p hp => W.fr p (h.subset hp)⟩
theorem Ow.fresh {H0 H : Hp} {M : List Addr} {L : List (Addr × HO)} {p : Addr} {o : HO} (W : Ow H0 M H ((p, o) :: L)) (h : ∀ x ∈ M, x ∈ L.map (·.1)) : H0 p = none := by
  rcases W.fr _ List.mem_cons_self with r | r
  · exact r
  · exact absurd (h _ r) (List.nodup_cons.mp W.nd).1
theorem Ow.anyN {H0 H H' : Hp} {M : List Addr} {L : List (Addr × HO)} {a p : Addr} {o o' o2 : HO} (W : Ow H0 M H L) (i : Nat) (e : L[i]? = some (a, o)) (k : Keep [a] H H') (h : H' a = some o') (hp : H p = none) (h2 : H' p = some o2) : Ow H0 M H' ((p, o2) :: L.set i (a, o')) where
  keep := (W.any1 i e k h).keep
  has := fun q hq => by
    rcases List.mem_cons.mp hq with rfl | hq
    · exact h2
    · exact (W.any1 i e k h).has q hq
  nd := by
    rw [List.map_cons, List.nodup_cons, map_set_fst e]
    refine ⟨fun hm => ?_, W.nd⟩
    obtain ⟨q, hq, e⟩ := List.mem_map.mp hm
    have := W.has q hq
    rw [show q.1 = p from e, hp] at this
    cases this
  fr := fun q hq => by
    rcases List.mem_cons.mp hq with rfl | hq
    · by_cases hm : p ∈ M
      · exact .inr hm
      · cases e0 : H0 p with
        | none => exact .inl rfl
        | some u =>
          have := W.keep p u e0 hm
          rw [hp] at this
          cases this
    · exact (W.any1 i e k h).fr q hq
/-- a small letter -/
def lc (c : Nat) : Bool := decide (97 ≤ c ∧ c ≤ 122)
theorem lc_alpha : ∀ c : Fin 128, lc c.1 = true → Unicode.isAlpha c.1 = true ∧ Unicode.isLower c.1 = true ∧ (Unicode.isUpper c.1 || Unicode.isTitle c.1) = false := by decide +kernel
theorem all_tl (s : Str) (p : Nat → Bool) : s.cps.all p = (tl s).all p := by simp
theorem any_tl (s : Str) (p : Nat → Bool) : s.cps.any p = (tl s).any p := by simp
theorem isascii_asc {s : Str} (a : Asc s) : Txt.isascii s = true := by
  show s.cps.all (· < 128) = true
  rw [all_tl]
  exact List.all_eq_true.mpr fun c hc => decide_eq_true (a c hc)
/-- a name -/
structure Nm (s : Str) : Prop where
  l0 : 1 ≤ s.length
  l1 : s.length ≤ 8
  lo : ∀ c ∈ tl s, lc c = true
theorem Nm.lt {s : Str} (h : Nm s) {c : Nat} (hc : c ∈ tl s) : 97 ≤ c ∧ c ≤ 122 := of_decide_eq_true (h.lo c hc)
theorem Nm.asc {s : Str} (h : Nm s) : Asc s := fun c hc => by have := h.lt hc; omega
theorem Nm.alpha {s : Str} (h : Nm s) : Txt.isalpha s = true := by
  show (decide (s.length > 0) && s.cps.all Unicode.isAlpha) = true
  rw [all_tl, Bool.and_eq_true, decide_eq_true_eq, List.all_eq_true]
  exact ⟨h.l0, fun c hc => (lc_alpha ⟨c, h.asc c hc⟩ (h.lo c hc)).1⟩
theorem Nm.lower {s : Str} (h : Nm s) : Txt.islower s = true := by
  show (s.cps.any Unicode.isLower && !s.cps.any fun c => Unicode.isUpper c || Unicode.isTitle c) = true
  rw [any_tl, any_tl, Bool.and_eq_true, List.any_eq_true, Bool.not_eq_true', List.any_eq_false]
  refine ⟨?_, fun c hc => by have := (lc_alpha ⟨c, h.asc c hc⟩ (h.lo c hc)).2.2; simpa using this⟩
  have h0 := h.l0
  rw [len_tl] at h0
  obtain ⟨c, hc⟩ := List.exists_mem_of_length_pos h0
  exact ⟨c, hc, (lc_alpha ⟨c, h.asc c hc⟩ (h.lo c hc)).2.1⟩
theorem slash : Str.ofString "/" = ⟨#[47]⟩ := by decide +kernel
theorem tl_slash : tl (Str.ofString "/") = [47] := by decide +kernel
theorem tl_emp : tl (Str.ofString "") = [] := by decide +kernel
/-- names behind slashes -/
def flat (ns : List Str) : List Nat := (ns.map fun s => 47 :: tl s).flatten
def cat (ns : List Str) : Str := ns.foldl (fun a n => (a ++ Str.ofString "/") ++ n) (Str.ofString "")
theorem cat_app (ns : List Str) (n : Str) : cat (ns ++ [n]) = (cat ns ++ Str.ofString "/") ++ n := by
  unfold cat
  rw [List.foldl_append]
  rfl
theorem tl_catF : ∀ (ns : List Str) (a : Str), tl (ns.foldl (fun a n => (a ++ Str.ofString "/") ++ n) a) = tl a ++ flat ns
  | [], a => by simp [flat]
  | n :: r, a => by
    rw [List.foldl_cons, tl_catF r, tl_append, tl_append, tl_slash]
    simp [flat]
theorem tl_cat (ns : List Str) : tl (cat ns) = flat ns := by
  unfold cat
  rw [tl_catF, tl_emp]
  rfl
def Nms (ns : List Str) : Prop := ∀ s ∈ ns, Nm s
theorem Nms.app {a b : List Str} (ha : Nms a) (hb : Nms b) : Nms (a ++ b) := fun s h => (List.mem_append.mp h).elim (ha s) (hb s)
theorem Nms.sub {a b : List Str} (h : Nms b) (s : ∀ x ∈ a, x ∈ b) : Nms a := fun x hx => h x (s x hx)
theorem Nms.take {a : List Str} (h : Nms a) (k : Nat) : Nms (a.take k) := h.sub fun _ => List.mem_of_mem_take
theorem Nms.drop {a : List Str} (h : Nms a) (k : Nat) : Nms (a.drop k) := h.sub fun _ => List.mem_of_mem_drop
theorem Nms.dropLast {a : List Str} (h : Nms a) : Nms a.dropLast := h.sub fun _ hx => (List.dropLast_subset _) hx
theorem Nms.asc {a : List Str} (h : Nms a) : ∀ s ∈ a, Asc s := fun s hs => (h s hs).asc
theorem flat_len : ∀ {ns : List Str}, Nms ns → (flat ns).length ≤ 9 * ns.length
  | [], _ => by simp [flat]
  | n :: r, h => by
    have ih := flat_len (ns := r) fun s hs => h s (List.mem_cons_of_mem _ hs)
    have h1 := (h n List.mem_cons_self).l1
    rw [len_tl] at h1
    show ((47 :: tl n) ++ flat r).length ≤ _
    rw [List.length_append, List.length_cons, List.length_cons]
    omega
theorem cat_len {ns : List Str} (h : Nms ns) : (cat ns).length ≤ 9 * ns.length := by
  rw [len_tl, tl_cat]
  exact flat_len h
def pathOf (ns : List Str) : Str := if ns = [] then Str.ofString "/" else cat ns
theorem pathOf_nil : pathOf [] = Str.ofString "/" := rfl
theorem pathOf_ne {ns : List Str} (h : ns ≠ []) : pathOf ns = cat ns := if_neg h
theorem path_len {ns : List Str} (h : Nms ns) : (pathOf ns).length ≤ 9 * ns.length + 1 := by
  by_cases e : ns = []
  · subst e
    decide +kernel
  · rw [pathOf_ne e]
    exact Nat.le_trans (cat_len h) (by omega)
theorem flat_cons (n : Str) (r : List Str) : flat (n :: r) = 47 :: (tl n ++ flat r) := by simp [flat]
theorem path_starts (ns : List Str) : Txt.startswith (pathOf ns) (Str.ofString "/") = true := by
  rw [slash, starts_one]
  cases ns with
  | nil => decide +kernel
  | cons n r => rw [pathOf_ne (by simp), tl_cat, flat_cons]; rfl
theorem path_slash {ns : List Str} (h : Nms ns) (e : ns ≠ []) : pathOf ns ≠ Str.ofString "/" := fun he => by
  have := congrArg tl he
  rw [pathOf_ne e, tl_cat, tl_slash] at this
  cases ns with
  | nil => exact e rfl
  | cons n r =>
    rw [flat_cons] at this
    have h0 := (h n List.mem_cons_self).l0
    rw [len_tl] at h0
    have h2 := congrArg List.length this
    simp at h2
    simp [h2.1] at h0
theorem cat_emp {ns : List Str} : cat ns = Str.ofString "" ↔ ns = [] := by
  constructor
  · intro h
    cases ns with
    | nil => rfl
    | cons n r =>
      have := congrArg tl h
      rw [tl_cat, flat_cons, tl_emp] at this
      cases this
  · rintro rfl
    rfl
theorem spl_word : ∀ (l acc r : List Nat), (∀ c ∈ l, c ≠ 47) → spl [47] 0 acc (l ++ r) = spl [47] 0 (acc ++ l) r
  | [], acc, r, _ => by simp
  | c :: l, acc, r, h => by
    rw [List.cons_append, spl_miss (by rw [pre_one]; exact decide_eq_false (h c List.mem_cons_self)), spl_word l _ r fun d hd => h d (List.mem_cons_of_mem _ hd)]
    simp
theorem spl_flat : ∀ (ns : List Str) (acc : List Nat), Nms ns → spl [47] 0 acc (flat ns) = acc :: ns.map tl
  | [], acc, _ => by
    show spl [47] 0 acc [] = _
    rw [spl_nil]
    rfl
  | n :: r, acc, h => by
    have hn := h n List.mem_cons_self
    rw [flat_cons, spl_hit (by rw [pre_one]; rfl), List.map_cons]
    show acc :: spl [47] 0 [] (tl n ++ flat r) = _
    rw [spl_word _ _ _ fun c hc => by have := hn.lt hc; omega, spl_flat r _ fun s hs => h s (List.mem_cons_of_mem _ hs)]
    rfl
theorem split_path {ns : List Str} (h : Nms ns) (e : ns ≠ []) : Txt.split (pathOf ns) (Str.ofString "/") = Str.ofString "" :: ns := by
  refine map_tl_inj ?_
  rw [slash, split_tl _ (by decide), pathOf_ne e, tl_cat, spl_flat _ _ h, List.map_cons, tl_emp]
theorem flat_join : ∀ {ns : List Str}, ns ≠ [] → 47 :: joinL [47] (ns.map tl) = flat ns
  | [], h => absurd rfl h
  | [s], _ => by
    rw [flat_cons]
    show 47 :: tl s = 47 :: (tl s ++ [])
    rw [List.append_nil]
  | s :: t :: r, _ => by
    have ih := flat_join (ns := t :: r) (by simp)
    rw [flat_cons, ← ih]
    rfl
theorem join_path (ns : List Str) : Str.ofString "/" ++ Txt.join (Str.ofString "/") ns = pathOf ns := by
  refine ext_tl ?_
  rw [tl_append, join_eq, tl_join, tl_slash]
  cases ns with
  | nil => decide +kernel
  | cons n r =>
    rw [pathOf_ne (by simp), tl_cat]
    exact flat_join (by simp)
theorem names_sum {ns : List Str} (h : Nms ns) : (ns.map (·.length)).sum ≤ ns.length * 8 := sum_le fun s hs => (h s hs).l1
theorem ix_listK {X : Cx} {K : PySem.W.Frag} (h : X.K = K) : IxR X (rIxL K) := h ▸ ix_list
/-! slices -/
theorem cutV_to (xs : List V) (k : Nat) : cutV xs none (some (k : Int)) = xs.take k := by
  show (xs.drop 0).take (HT.sIx xs.length xs.length (some (k : Int)) - 0) = _
  rw [HT.sIx_nat, List.drop_zero, Nat.sub_zero]
  by_cases h : k ≤ xs.length
  · rw [Nat.min_eq_left h]
  · rw [Nat.min_eq_right (by omega), List.take_of_length_le (Nat.le_refl _), List.take_of_length_le (by omega)]
theorem cutV_from (xs : List V) (k : Nat) : cutV xs (some (k : Int)) none = xs.drop k := by
  show (xs.drop (HT.sIx xs.length 0 (some (k : Int)))).take (xs.length - HT.sIx xs.length 0 (some (k : Int))) = _
  rw [HT.sIx_nat]
  by_cases h : k ≤ xs.length
  · rw [Nat.min_eq_left h, List.take_of_length_le (by rw [List.length_drop]; exact Nat.le_refl _)]
  · rw [Nat.min_eq_right (by omega), Nat.sub_self, List.take_zero, List.drop_of_length_le (by omega)]
theorem cutV_last (xs : List V) : cutV xs none (some (-1)) = xs.dropLast := by
  show (xs.drop 0).take (((-1 : Int) + (xs.length : Int)).toNat - 0) = _
  rw [List.drop_zero, Nat.sub_zero, List.dropLast_eq_take, show ((-1 : Int) + (xs.length : Int)).toNat = xs.length - 1 by omega]
theorem tl_cutTo (s : Str) (k : Nat) : tl (cutS s none (some (k : Int))) = (tl s).take k := by
  rw [tl_cutS]
  show ((tl s).drop 0).take (HT.sIx s.length s.length (some (k : Int)) - 0) = _
  rw [HT.sIx_nat, len_tl, List.drop_zero, Nat.sub_zero]
  by_cases h : k ≤ (tl s).length
  · rw [Nat.min_eq_left h]
  · rw [Nat.min_eq_right (by omega), List.take_of_length_le (Nat.le_refl _), List.take_of_length_le (by omega)]
theorem eqv_strs2 : ∀ a b : List Str, PyData.eqvAll (a.map .str) (b.map .str) = decide (a = b)
  | [], [] => rfl
  | [], _ :: _ => rfl
  | _ :: _, [] => rfl
  | x :: a, y :: b => by
    rw [List.map_cons, List.map_cons, PyData.eqvAll, eqv_strs2 a b, PyData.eqv]
    by_cases h : x = y
    · subst h
      simp
    · simp [h]
theorem eqv_lists (a b : List Str) : PyData.eqv (dStrs a) (dStrs b) = decide (a = b) := by
  unfold dStrs
  rw [PyData.eqv, eqv_strs2]
theorem shaped_names {ns : List Str} (h : Nms ns) : SeqAt.shaped (dStrs ns) = true := shaped_strs h.asc
/-! ### a walk over a tuple by what is behind -/
section
variable {g : TG} {tb : TS} {D : Ends} {σ : L2.St} {H : Hp}
theorem for_tu {K : PySem.W.Frag} {a : Addr} {xs : List V} (Pv : List V → L2.St → Hp → Prop) (h0 : Pv [] σ H) (hl : ∀ pre post σ H, xs = pre ++ post → Pv pre σ H → SqT K H a xs)
    (hs : ∀ pre x post σ H, xs = pre ++ x :: post → Pv pre σ H → g x σ H fun σ2 H2 => tb { D with nx := Pv (pre ++ [x]), ct := Pv (pre ++ [x]), bk := D.nx } σ2 H2) (hd : ∀ σ H, Pv xs σ H → D.nx σ H) :
    ∃ W : Nat → Nat → L2.St → Hp → Prop, (∃ m, W 0 m σ H) ∧ ∀ i m σ H, W i m σ H →
      ((Itt K a).stop i H ∧ D.nx σ H) ∨ ((Itt K a).go i H ∧ ∃ N : L2.St → Hp → Prop, (∀ σ' H', N σ' H' → ∃ m', m' < m ∧ W (i + 1) m' σ' H') ∧ ∀ x H', (Itt K a).yld i H x H' → g x σ H' fun σ2 H2 => tb { D with nx := N, ct := N, bk := D.nx } σ2 H2) := by
  refine for_it (walk_tup (xs := xs)) (fun i σ H => Pv (xs.take i) σ H) (by simpa using h0) (fun i σ H _ p => hl (xs.take i) (xs.drop i) σ H (List.take_append_drop i xs).symm p) ?_ (fun σ H p => hd σ H (by rw [List.take_length] at p; exact p))
  rintro i x σ H H' hi p ⟨rfl, hc⟩
  have e : xs = xs.take i ++ x :: xs.drop (i + 1) := by
    have h2 : xs[i] = x := by rw [List.getElem?_eq_getElem hi] at hc; exact Option.some.inj hc
    rw [← h2, ← List.drop_eq_getElem_cons hi, List.take_append_drop]
  have e2 : xs.take (i + 1) = xs.take i ++ [x] := by rw [List.take_add_one, hc]; rfl
  rw [e2]
  exact hs _ x _ σ _ e p
end
/-! ### defs with a star parameter, and their calls -/
theorem okStar {P : Program} {w : World} {K : PySem.W.Frag} {mg : Str → Option Value} {base : Heap} {x qual pv : Str} {st : Stmt} {f : Addr} {fd : FuncData} {N ps : List Str} {k : Nat} {sp : Sp} (F : L2.Fun K x qual st f fd) (S : FnScope N (ps ++ [pv]) (defScope st))
    (hb : ∀ (kV doc pm : Value) (an : Option Addr) (cdv ct : Value) (us rest : List Value), us.length = ps.length → bindArgs (PySem.W.fnOf x qual (defArgs st) (defBody st) (defScope st) .none kV doc pm an cdv ct) ⟨us ++ rest, []⟩ = (newTuple rest >>= fun t => pure (ps.zip us ++ [(pv, t)])))
    (hbody : ∀ (cdv : Value) (A : Around) (outer : List Env) (s : Shared) (H : Hp) (vs : List V) (Q : VK) (E : XK), Room k (A.deeper (envOfC qual (defScope st) s.heap.objs.size f cdv)) → sp vs H Q E →
      ∃ t, PSs (cxOf CX0 P w K mg base N qual (defScope st) f cdv A outer s H E).nox (defBody st) t ∧ t { nx := fun _ H' => Q .non H', rt := Q } (start N vs) H) :
    FnR P w K mg base CX0 (k + 1) f (fun vs H Q E => ∃ ws rest, vs = ws ++ rest ∧ ws.length = ps.length ∧ rest.length ≤ sizeLine ∧ ∀ p, H p = Option.none → sp (ws ++ [V.ref p]) (upd H p (.tup rest)) Q E) := by
  obtain ⟨oc, od, kV, doc, pm, an, cdv, ct, osl, rfl, lk, hcd⟩ := F.ex
  refine StX.fn_star lk hcd S StX.cxUp_none (hb kV doc pm an cdv ct) fun A outer s H vs Q E hr hsp => ?_
  obtain ⟨t, h, q⟩ := hbody cdv A outer s H vs Q E hr hsp
  exact ⟨t, h.nox, q⟩
section
variable {X : Cx} {CX : CXT} {k : Nat} {f : Addr} {sp : Sp} {E : XK} {x : Str} {e : Expr} {es : List Expr} {t : TA} {p pos : Pos}
theorem pe_callRN (F : FnR X.prog X.w X.K X.mg X.base CX k f sp) (hr : Room k X.A) (hk : PySem.W.keepIn X.K (.ref f) = true) (hg : Gl X x) (hm : X.mg x = some (.ref f)) (hx : Passes CX X E) (ha : PA X (e :: es) t) (hd : (x == ("__debug__" : Str)) = false := by decide)
    (he : starEach (e :: es) X.env = (false, eval e X.env) :: starEach es X.env := by rfl) (hpl : (backTo pos (starEach es X.env)).any (·.1) = false := by rfl) :
    PE X (.Call (.Name x p) (e :: es) [] pos) (fun σ H Q => t σ H fun vs H1 => sp vs H1 Q E) := by
  refine ⟨fun pins s σ H Q I h => ?_⟩
  refine wpAny_Call_Name_kw (ld_glob I hg hm ?_ hd)
  refine PySem.W.callWith_K (h₀ := X.base) I.ok.mod.kin hk (thn (ha.run pos pins s σ H _ I h) fun us s1 ⟨vs, H1, I1, r, q⟩ => ⟨I1.kIn, ?_⟩) he hpl
  exact wpAny_call (run_fnR F hr hx I1 r q)
end

end FR
set_option Elab.async false
set_option linter.all false
set_option maxRecDepth 100000
namespace FR
open PySem PySem.Spec PyProof.Rows L2 TL
theorem pe_joinK {X : Cx} {K : PySem.W.Frag} {o e : Expr} {to te : TE} {apos pos : Pos} (h : X.K = K) (ho : PE X o to) (he : PE X e te) (hs : starEach [e] X.env = [(false, eval e X.env)] := by rfl) (hbase : attributeBase o "join" X.env (eval o X.env) = eval o X.env := by rfl) (hline : (apos.endLine == pos.line) = true := by rfl) :
    PE X (.Call (.Attribute o "join" apos) [e] [] pos) (tM1 (fun x xs H Q => ∃ a p, ∃ ys : List Str, x = .str a ∧ xs = [.ref p] ∧ (SqL K H p (ys.map V.str) ∨ SqT K H p (ys.map V.str)) ∧
      (ys.map (·.length)).sum + ys.length * a.length ≤ 16777216 ∧ Q (.str (Txt.join a ys)) H) to te) := h ▸ pe_join ho he hs hbase hline
end FR
set_option Elab.async false
set_option linter.all false
set_option maxRecDepth 100000
/-! promises that also know that no repr is under way; repr of data -/
namespace FR
open PySem PySem.Spec PyProof.Rows L2 TL
def FnG (P : Program) (w : World) (K : PySem.W.Frag) (mg : Str → Option Value) (base : Heap) (CX : CXT) (k : Nat) (f : Addr) (sp : Sp) : Prop :=
  ∀ (A : Around) (outer : List Env) (s : Shared) (H : Hp) (us : List Value) (vs : List V) (Q : VK) (E : XK), A.guards = some [] → Room k A → Env0 P w K mg base A outer s H → Vals vs us → sp vs H Q E → codeAny (model P w) A (.call (.ref f) ⟨us, []⟩) (CR CX outer P w H s Q E) s
section
variable {P : Program} {w : World} {K : PySem.W.Frag} {mg : Str → Option Value} {base : Heap} {CX : CXT} {k : Nat} {f : Addr} {sp : Sp}
theorem FnG.of (F : FnR P w K mg base CX k f sp) : FnG P w K mg base CX k f sp := fun A outer s H us vs Q E _ hr e0 r hs => F A outer s H us vs Q E hr e0 r hs
theorem okG {x qual : Str} {st : Stmt} {fd : FuncData} {N ps : List Str} (F : L2.Fun K x qual st f fd) (S : FnScope N ps (defScope st)) (B : Binds K fd ps []) (hlen : ∀ vs H Q E, sp vs H Q E → vs.length = ps.length)
    (hbody : ∀ (cdv : Value) (A : Around) (outer : List Env) (s : Shared) (H : Hp) (vs : List V) (Q : VK) (E : XK), A.guards = some [] → Room k (A.deeper (envOfC qual (defScope st) s.heap.objs.size f cdv)) → sp vs H Q E →
      ∃ t, PSs (cxOf CX P w K mg base N qual (defScope st) f cdv A outer s H E) (defBody st) t ∧ t { nx := fun _ H' => Q .non H', rt := Q } (start N vs) H) : FnG P w K mg base CX (k + 1) f sp := by
  intro A outer s H us vs Q E hg hr e0 r hsp
  obtain ⟨oc, od, kV, doc, pm, an, cdv, ct, osl, rfl, lk, hcd⟩ := F.ex
  have hv : vs.length = ps.length := hlen _ _ _ _ hsp
  have hu : us.length = ps.length := by rw [← r.length]; exact hv
  have KI : K.In s.heap := e0.mod.kin.keeps fun b o e => (e0.bs b o e).1
  have b0 := B s us KI (by rw [List.append_nil]; exact hu)
  rw [List.append_nil] at b0
  refine StX.run_bnd lk hcd S hr e0 (G := fun xs H2 => xs = vs ∧ H2 = H) (fun A' Ex Q' h => ?_) fun s2 H2 xs ⟨ex, eH⟩ hr' => ?_
  · exact b0 _ _ _ _ (h s H vs us e0 Un.refl rfl (fun _ _ z => z) r hv ⟨rfl, rfl⟩)
  · subst ex eH
    exact hbody cdv A outer s2 _ _ Q E hg hr' hsp
end
section
variable {X : Cx} {CX : CXT} {k : Nat} {f : Addr} {sp : Sp} {E : XK} {x : Str} {e : Expr} {es : List Expr} {t : TA} {p pos : Pos}
theorem pe_callG (F : FnG X.prog X.w X.K X.mg X.base CX k f sp) (hgd : X.A.guards = some []) (hr : Room k X.A) (hk : PySem.W.keepIn X.K (.ref f) = true) (hg : Gl X x) (hm : X.mg x = some (.ref f)) (hx : Passes CX X E) (ha : PA X (e :: es) t) (hd : (x == ("__debug__" : Str)) = false := by decide)
    (he : starEach (e :: es) X.env = (false, eval e X.env) :: starEach es X.env := by rfl) (hpl : (backTo pos (starEach es X.env)).any (·.1) = false := by rfl) :
    PE X (.Call (.Name x p) (e :: es) [] pos) (fun σ H Q => t σ H fun vs H1 => sp vs H1 Q E) := ⟨fun pins s σ H Q I h => by
  refine wpAny_Call_Name_kw (ld_glob I hg hm (PySem.W.callWith_K (h₀ := X.base) I.ok.mod.kin hk (thn (ha.run pos pins s σ H _ I h) fun us s1 hz => ?_) he hpl) hd)
  obtain ⟨vs, H1, I1, r, q⟩ := hz
  refine ⟨I1.kIn, wpAny_call (codeAny_mono (F X.A X.stack s1 H1 us vs Q E hgd hr I1.env0 r q) fun rr s' hq => ?_)⟩
  match rr, hq with
  | .error ee, hq => exact hx pins σ H1 s1 ee s' I1 hq
  | .ok (.ret u), hq => exact I1.after hq
  | .ok .next, hq => exact hq.elim
  | .ok .brk, hq => exact hq.elim
  | .ok .cont, hq => exact hq.elim⟩
/-- repr of data without dicts -/
def rReprD (K : PySem.W.Frag) : List V → Hp → VK → Prop := fun xs H Q => ∃ (p : Addr) (d : PyData), xs = [.ref p] ∧ Dp K H (.ref p) d ∧ d.showable = true ∧ d.hasDict = false ∧ d.depth ≤ 50 ∧ d.shown.length ≤ sizeLine ∧ Q (.str d.shown) H
theorem call_reprD (hgd : X.A.guards = some []) (hu : X.A.units + 65 < cLine) : CallR X (.builtin "repr") (rReprD X.K) := fun pins s σ H xs us Q I r h => by
  obtain ⟨p, d, rfl, hd, hs, hnd, hdp, hz, q⟩ := h
  obtain ⟨u, rfl, ru⟩ : ∃ u, us = [u] ∧ RelV (.ref p) u := by
    cases r with
    | cons a b => cases b; exact ⟨_, rfl, a⟩
  cases (show u = Value.ref p from ru)
  obtain ⟨as, rd⟩ := Dp.reads I d _ _ hd ru
  exact repr_of_reads' rd hs (fun e => by rw [hnd] at e; cases e) hgd (by omega) (fun _ _ e => e) (fun h' u tk hk => ⟨.str d.shown, H, I.kept hk, ⟨_, rfl⟩, q⟩) hz
end
/-! ### the end of a row, for such a promise -/
theorem law_callG {P : Program} {w : World} {K : PySem.W.Frag} {mg mb : Str → Option Value} {k : Nat} {fa a : Addr} {sp : Sp} {s1 : Shared} {vs : List Value} {ns : List Int}
    (KX : K.In s1.heap) (hns : s1.heap.Ns mainGlobals mg) (hb : s1.heap.Ns builtinsNs mb) (hbb : ∀ x : Str, x ≠ "__name__" → mb x = bootBuiltins x) (hlim : s1.heap.NoLimit) (hg : s1.gens = #[])
    (ha : s1.heap.get? a = some { cls := .type "list", data := .seq vs.toArray }) (hi : IntsAre vs ns) (hl : ns.length ≤ sizeLine) (hr : Room k callerA)
    (F : ∀ base : Heap, K.In base → base.Ns mainGlobals mg → FnG P w K mg base CX0 k fa sp)
    (hsp : ∀ H : Hp, Only H → SqL K H a (ns.map V.int) → sp [.ref a] H (fun v _ => v = .bl true) fun _ _ _ => False) :
    codeAny (model P w) callerA (.call (.ref fa) ⟨[.ref a], []⟩) (fun r s' => r = .ok (.ret (.bool true)) ∧ OldK s1.heap s'.heap ∧ s'.os = s1.os ∧ AllBare s'.gens) s1 := by
  have rv := vals_ints hi
  have lv := hi.length
  have main : ∀ H : Hp, Only H → SqL K H a (ns.map V.int) → HOk P w H s1.heap → (∀ b, H b ≠ none → b = a) → (H a ≠ none → K.lookup a = none) →
      codeAny (model P w) callerA (.call (.ref fa) ⟨[.ref a], []⟩) (fun r s' => r = .ok (.ret (.bool true)) ∧ OldK s1.heap s'.heap ∧ s'.os = s1.os ∧ AllBare s'.gens) s1 := by
    intro H hO hS hok hA hK
    have free : ∀ {b : Addr} {o : Obj} {es : Array DictEntry} {ep : Nat}, s1.heap.get? b = some o → o.data = .dict es ep → H b = none := by
      intro b o es ep e d
      refine Classical.byContradiction fun q => ?_
      cases hA b q
      cases ha.symm.trans e
      cases d
    have nsT : ∀ {b : Addr} {m : Str → Option Value}, s1.heap.Ns b m → (hidT s1.heap H).Ns b m := by
      intro b m ⟨o, es, ep, e, d, r⟩
      exact ⟨o, es, ep, hidT_get e (free e d), d, r⟩
    have KT : K.In (hidT s1.heap H) := by
      intro b o e
      refine hidT_get (KX b o e) (Classical.byContradiction fun q => ?_)
      cases hA b q
      cases (hK q).symm.trans e
    have md : Mod K mg (hidT s1.heap H) := ⟨KT, nsT hns, ⟨mb, nsT hb, hbb⟩, hlim.elim fun mc hc => ⟨mc, nsT hc.1, hc.2⟩⟩
    have en : Env0 P w K mg (hidT s1.heap H) callerA [] s1 H := ⟨rfl, md, fun _ _ e => of_hidT e, Nat.le_of_eq (hidT_size ..), True.intro, fun _ hb => (List.not_mem_nil hb).elim, hok, AllBare.of_eq hg⟩
    refine codeAny_mono (F _ KT (nsT hns) callerA [] s1 H [.ref a] [.ref a] _ _ rfl hr en (.cons rfl .nil) (hsp H hO hS)) fun r s' h => ?_
    match r, h with
    | .error e, h => exact h.elim
    | .ok .next, h => exact h.elim
    | .ok .brk, h => exact h.elim
    | .ok .cont, h => exact h.elim
    | .ok (.ret u), h =>
      obtain ⟨v, H', os, bare, un, hok', rr, q⟩ := h
      cases (show v = .bl true from q)
      cases (show u = Value.bool true from rr)
      refine ⟨rfl, OldK.of_keep fun b o e => ?_, os, bare⟩
      rcases hO b with z | ⟨ob, xs, z⟩
      · exact un.keep b o e z (fun y => (List.not_mem_nil y).elim) (List.not_mem_nil)
      · have t1 := (hok b _ z).1
        have t2 := (hok' b _ (un.frzs b ob _ z)).1
        rw [e] at t1
        cases t1
        exact t2
  cases hk : K.lookup a with
  | some o =>
    cases ha.symm.trans (KX a o hk)
    exact main (fun _ => none) (fun _ => Or.inl rfl) (Or.inr ⟨_, vs.toArray, _, hk, rfl, rfl, rfl, by rw [List.size_toArray, lv]; exact hl, by simpa using rv⟩) (fun b u z => nomatch (show (none : Option HO) = some u from z)) (fun b z => (z rfl).elim) (fun z => (z rfl).elim)
  | none =>
    have hs : ∀ b : Addr, b = a → (if b = a then some (HO.frz { cls := .type "list", data := .seq vs.toArray } (.lst (ns.map V.int))) else none) = some (HO.frz { cls := .type "list", data := .seq vs.toArray } (.lst (ns.map V.int))) := fun b e => if_pos e
    have hn : ∀ b : Addr, b ≠ a → (if b = a then some (HO.frz { cls := .type "list", data := .seq vs.toArray } (.lst (ns.map V.int))) else none) = none := fun b e => if_neg e
    refine main (fun b => if b = a then some (HO.frz { cls := .type "list", data := .seq vs.toArray } (.lst (ns.map V.int))) else none) (fun b => ?_) (Or.inl (Or.inr ⟨_, hs a rfl⟩)) (fun b u z => ?_) (fun b z => Classical.byContradiction fun e => z (hn b e)) (fun _ => hk)
    · by_cases e : b = a
      · exact Or.inr ⟨_, _, hs b e⟩
      · exact Or.inl (hn b e)
    · by_cases e : b = a
      · cases (hs b e).symm.trans z
        subst e
        exact ⟨ha, by rw [List.length_map]; exact hl, vs, _, rv, ha⟩
      · cases (hn b e).symm.trans z
theorem walk_ofG {l : PySem.W.OpenLaw} {n k : Nat} {q : Program} {loose : List Str} {XP : (Str → Option Value) → Heap → Prop} {YP : World → Heap → Prop} {d : DefRec} {K : Params → PySem.W.Frag} {sp : World → Sp}
    (hn : l.most = some n) (hn2 : n ≤ sizeLine) (hdf : d.params.defaults = []) (hr : Room k callerA) (hY : ∀ (w : World) (h : Heap), YP w h → (K w.params).In h)
    (F : ∀ (w : World) (mg : Str → Option Value) (fa : Addr) (h : Heap), (K w.params).In h → h.Ns mainGlobals mg → mg d.name = some (.ref fa) →
      ∀ base : Heap, (K w.params).In base → base.Ns mainGlobals mg → FnG l.prog w (K w.params) mg base CX0 k fa (sp w))
    (hsp : ∀ (w : World) (H : Hp) (a : Addr) (ns : List Int), ns.length ≤ n → Only H → SqL (K w.params) H a (ns.map V.int) → sp w [.ref a] H (fun v _ => v = .bl true) fun _ _ _ => False) :
    PySem.W.WalkO q loose XP YP l.row.toRowW d [] (fun f vs => PySem.call f vs) := by
  refine Att.attach_call hn hdf fun w s0 s1 mg mb fa o pm cd doc a vs ns G Y ho hd hcd hmg hobj hints hlen hg => ?_
  have KX := hY w _ Y
  exact law_callG KX G.T.g G.T.b G.T.builtins G.T.nolimit hg hobj hints (Nat.le_trans hlen hn2) hr (F w mg fa _ KX G.T.g hmg) fun H hO hS => hsp w H a ns hlen hO hS
end FR
set_option Elab.async false
set_option linter.all false
set_option maxRecDepth 100000
/-! repr of data with dicts -/
namespace FR
open PySem PySem.Spec PyProof.Rows L2 TL
def kD : Key → PyData
  | .inl i => .int i
  | .inr x => .str x
mutual
/-- x stands for the datum d, lists, tuples and dicts of this run all the way -/
inductive Dq (H : Hp) : V → PyData → Prop
  | non : Dq H .non .none
  | bl (b : Bool) : Dq H (.bl b) (.bool b)
  | int (i : Int) : Dq H (.int i) (.int i)
  | str (x : Str) : Dq H (.str x) (.str x)
  | lst {a : Addr} {xs : List V} {ds : List PyData} : H a = some (.lst xs) → sysModules < a → DqAll H xs ds → Dq H (.ref a) (.list ds)
  | tup {a : Addr} {xs : List V} {ds : List PyData} : H a = some (.tup xs) → DqAll H xs ds → Dq H (.ref a) (.tuple ds)
  | dct {a : Addr} {kvs : List (Key × V)} {ds : List (PyData × PyData)} : H a = some (.dK kvs) → DqKv H kvs ds → Dq H (.ref a) (.dict ds)
inductive DqAll (H : Hp) : List V → List PyData → Prop
  | nil : DqAll H [] []
  | cons {v : V} {vs : List V} {d : PyData} {ds : List PyData} : Dq H v d → DqAll H vs ds → DqAll H (v :: vs) (d :: ds)
inductive DqKv (H : Hp) : List (Key × V) → List (PyData × PyData) → Prop
  | nil : DqKv H [] []
  | cons {k : Key} {v : V} {vs : List (Key × V)} {d : PyData} {ds : List (PyData × PyData)} : Dq H v d → DqKv H vs ds → DqKv H ((k, v) :: vs) ((kD k, d) :: ds)
end
section
variable {X : Cx} {pins : List (Addr × Obj)} {σ : L2.St} {H : Hp} {s : Shared}
theorem kD_reads (k : Key) {u : Value} (h : keyIs k u = true) : Reads s.heap u (kD k) [] := by
  rcases keyIs_shape h with ⟨i, t, rfl, rfl⟩ | ⟨x, t, rfl, rfl⟩
  · exact .int i t
  · exact .str x t
mutual
theorem Dq.reads (I : Inv X pins σ H s) : ∀ (d : PyData) (v : V) (u : Value), Dq H v d → RelV v u → ∃ as, Reads s.heap u d as ∧ sysModules ∉ as
  | .none, _, _, h, r => by
    cases h
    cases r
    exact ⟨_, Reads.none, by simp⟩
  | .bool b, _, _, h, r => by
    cases h
    cases r
    exact ⟨_, Reads.bool b, by simp⟩
  | .int i, _, _, h, r => by
    cases h
    obtain ⟨t, rfl⟩ := r
    exact ⟨_, Reads.int i t, by simp⟩
  | .str x, _, _, h, r => by
    cases h
    obtain ⟨t, rfl⟩ := r
    exact ⟨_, Reads.str x t, by simp⟩
  | .list ds, _, _, h, r => by
    cases h with
    | lst hs hb ha =>
      cases r
      obtain ⟨_, its, n, rv, e⟩ := (show ObjOk X.prog X.w H s.heap _ (.lst _) from I.hok _ _ hs)
      obtain ⟨as, q, z⟩ := Dq.readsAll I ds _ _ ha rv
      exact ⟨_, Reads.list e rfl rfl q, fun h => (List.mem_cons.mp h).elim (fun e => by rw [← e] at hb; exact absurd hb (Nat.lt_irrefl _)) z⟩
  | .tuple ds, _, _, h, r => by
    cases h with
    | tup hs ha =>
      cases r
      obtain ⟨_, its, rv, o, e, hc, n, hd⟩ := (show ObjOk X.prog X.w H s.heap _ (.tup _) from I.hok _ _ hs)
      obtain ⟨as, q, z⟩ := Dq.readsAll I ds _ _ ha rv
      exact ⟨_, Reads.tuple e hc hd q, z⟩
  | .dict ds, _, _, h, r => by
    cases h with
    | dct hs ha =>
      cases r
      obtain ⟨_, ns, vs, kv, o, es, ep, e, hx, hd, _, hp, _⟩ := (show ObjOk X.prog X.w H s.heap _ (.dK _) from I.hok _ _ hs)
      obtain ⟨bs, q1, q2, z⟩ := Dq.readsKv I ds _ _ es.toList ha kv hp
      exact ⟨_, Reads.dict e hx.1 hd q1 q2, fun h => (List.mem_append.mp h).elim (fun h => (List.mem_cons.mp h).elim (fun e => by rw [← e] at ns; simp at ns) (fun h => by simp at h)) z⟩
theorem Dq.readsAll (I : Inv X pins σ H s) : ∀ (ds : List PyData) (vs : List V) (us : List Value), DqAll H vs ds → Vals vs us → ∃ as, ReadsAll s.heap us ds as ∧ sysModules ∉ as
  | [], _, _, h, r => by
    cases h
    cases r
    exact ⟨_, ReadsAll.nil, by simp⟩
  | d :: ds, _, _, h, r => by
    cases h with
    | cons h1 h2 =>
      cases r with
      | cons r1 r2 =>
        obtain ⟨as, q1, z1⟩ := Dq.reads I d _ _ h1 r1
        obtain ⟨bs, q2, z2⟩ := Dq.readsAll I ds _ _ h2 r2
        exact ⟨_, ReadsAll.cons q1 q2, fun h => (List.mem_append.mp h).elim z1 z2⟩
theorem Dq.readsKv (I : Inv X pins σ H s) : ∀ (ds : List (PyData × PyData)) (kvs : List (Key × V)) (vs : List (Key × Value)) (es : List DictEntry), DqKv H kvs ds → KV kvs vs → Pairs (mixKind X.prog X.w) es vs →
    ∃ bs, ReadsAll s.heap (es.map (·.key)) (ds.map (·.1)) [] ∧ ReadsAll s.heap (es.map (·.val)) (ds.map (·.2)) bs ∧ sysModules ∉ bs
  | [], _, _, _, h, r, p => by
    cases h
    cases r
    cases p
    exact ⟨_, ReadsAll.nil, ReadsAll.nil, by simp⟩
  | d :: ds, _, _, _, h, r, p => by
    cases h with
    | cons h1 h2 =>
      cases r with
      | cons r1 r2 =>
        cases p with
        | cons p1 p2 p3 =>
          obtain ⟨as, q1, z1⟩ := Dq.reads I _ _ _ h1 r1.2
          obtain ⟨bs, q2, q3, z2⟩ := Dq.readsKv I ds _ _ _ h2 r2 p3
          have p1' := p1
          rw [← r1.1] at p1'
          refine ⟨_, ?_, ?_, fun h => (List.mem_append.mp h).elim z1 z2⟩
          · exact ReadsAll.cons (as := []) (bs := []) (kD_reads _ (show keyIs _ _ = true from p1')) q2
          · rw [List.map_cons, List.map_cons, p2]
            exact ReadsAll.cons q1 q3
end
end
/-! lists at an address behind sysModules -/
structure NewS (o : HO) (Q : VK) (H : Hp) : Prop where
  to : ∀ (p : Addr) (H' : Hp), H p = none → sysModules < p → Keep [] H H' → H' p = some o → Q (.ref p) H'
section
variable {X : Cx} {es : List Expr} {t : TA} {pos : Pos}
def tLstS (t : TA) : TE := fun σ H Q => t σ H fun xs H1 => xs.length ≤ sizeLine ∧ NewS (.lst xs) Q H1
theorem pe_lstS (h : PA X es t) : PE X (.List es pos) (tLstS t) := by
  refine ⟨fun pins s σ H Q I hq => wpAny_List_spliced (thn (h.run _ pins s σ H _ I hq) fun us s1 hh => ?_)⟩
  obtain ⟨xs, H1, I1, r, z, q⟩ := hh
  refine ⟨by rw [← r.length]; exact z, .ref s1.heap.objs.size, upd H1 s1.heap.objs.size (.lst xs), I1.laid (t' := s1.toks) (fun _ _ e => Heap.get?_push_of_some _ e) (Nat.le_refl _) ⟨z, us, 0, r, Heap.get?_push_size _ rfl⟩, rfl, ?_⟩
  exact q.to _ _ (I1.hok.fresh (Nat.le_refl _)) I1.big (keep_new (I1.hok.fresh (Nat.le_refl _))) upd_same
end
section
variable {X : Cx}
def rReprQ : List V → Hp → VK → Prop := fun xs H Q => ∃ (p : Addr) (d : PyData), xs = [.ref p] ∧ Dq H (.ref p) d ∧ d.showable = true ∧ d.depth ≤ 50 ∧ d.shown.length ≤ sizeLine ∧ Q (.str d.shown) H
theorem call_reprQ (hgd : X.A.guards = some []) (hu : X.A.units + 65 < cLine) : CallR X (.builtin "repr") rReprQ := fun pins s σ H xs us Q I r h => by
  obtain ⟨p, d, rfl, hd, hs, hdp, hz, q⟩ := h
  obtain ⟨u, rfl, ru⟩ : ∃ u, us = [u] ∧ RelV (.ref p) u := by
    cases r with
    | cons a b => cases b; exact ⟨_, rfl, a⟩
  cases (show u = Value.ref p from ru)
  obtain ⟨as, rd, hsm⟩ := Dq.reads I d _ _ hd ru
  exact repr_of_reads' rd hs (fun _ => hsm) hgd (by omega) (fun _ _ e => e) (fun h' u tk hk => ⟨.str d.shown, H, I.kept hk, ⟨_, rfl⟩, q⟩) hz
end
end FR
set_option Elab.async false
set_option linter.all false
set_option maxRecDepth 100000
set_option maxHeartbeats 2000000
/-! exceptions of the program with one field, value -/
namespace PySem
namespace ExV
open PySem.W PySem.Calls PyProof.Rows PySem.HandSPX
/-! ### the text of __init__ -/
def iA (p1 p2 : Pos) : Arguments := { posonlyargs := [], args := [{ arg := "self", annotation := none, pos := p1 }, { arg := "value", annotation := none, pos := p2 }], vararg := none, kwonlyargs := [], kw_defaults := [], kwarg := none, defaults := [] }
def iB (q1 q2 q3 q4 : Pos) : List Stmt := [.Assign [.Attribute (.Name "self" q1) "value" q2] (.Name "value" q3) q4]
def iS : Scope := { kind := .function, names := [(PySem.Str.ofString "self", .local), (PySem.Str.ofString "value", .local)], isGenerator := false, isCoroutine := false, more := [] }
/-- what the written part says of Low, at C, and of its __init__, at fI -/
structure LowTxt (K : Frag) (mg : Str → Option Value) (cn qn : Str) (C fI : Addr) : Prop where
  gC : mg cn = some (.ref C)
  cls : ∃ nm q N bs bm sn sub ab col dd k0 k1 k2 k3 k5, K.lookup C = some (excClassObj nm q C N bs bm true sn sub ab col dd k0 k1 k2 k3 k5 "ValueError.__new__") ∧ refsVE bm = true
  sa : findIn K (.ref C) "__setattr__" = some (some (.builtin "object.__setattr__"))
  ga : findIn K (.ref C) "__getattribute__" = some (some (.builtin "BaseException.__getattribute__"))
  gg : findIn K (.ref C) "__getattr__" = some none
  noN : findIn K (.ref C) "value" = some none
  iC : findIn K (.ref C) "__init__" = some (some (.ref fI))
  tC : typeIn K (.ref fI) = some (.type "function")
  kC : keepIn K (.ref C) = true
  exC : subIn K (.ref C) (.type "BaseException") = some true
  tyC : typeIn K (.ref C) = some (.type "type")
  hdC : hasDictIn K C = true
  te : exmOne K (.ref C) (.ref C) = some true
  fn : ∃ (oc : Value) (od : Option Addr) (doc pm : Value) (an : Option Addr) (cdv ct : Value) (osl : Array (Option Value)) (p1 p2 q1 q2 q3 q4 : Pos),
    K.lookup fI = some ⟨oc, od, .func (fnOf "__init__" qn (iA p1 p2) (iB q1 q2 q3 q4) iS .none .none doc pm an cdv ct), osl⟩ ∧ codeIn K cdv qn = true
theorem one_size (v : Value) : [v].length ≤ sizeLine := by
  rw [sizeLine_eq]
  exact (by decide : 1 ≤ 16777216)
theorem kept_but {K : Frag} {h h' : Heap} {x : Addr} (X : K.In h) (hx : K.lookup x = none) (k : ∀ b o, b ≠ x → h.get? b = some o → h'.get? b = some o) : K.In h' := fun a o e =>
  k a o (fun z => by rw [z, hx] at e; cases e) (X a o e)
theorem ldC {M : Model} {s : Shared} {name : Str} {scope : Scope} {L a : Addr} {cd : Value} {m : Str → Option Value} {x : Str} {pos : Pos} {v : Value} {Q : Value → Shared → Prop} {A : Around} {E : Value → Shared → Prop} (hn : s.heap.Ns L m) (hv : m x = some v) (h : Q v s)
    (hk : scope.kind = .function := by rfl) (hl : (envOfC name scope L a cd).kindOf x = some .local := by rfl) (hd : (x == ("__debug__" : Str)) = false := by decide) :
    wpAny M A (eval (.Name x pos) (envOfC name scope L a cd)) Q E s := wpAny_Name (wpAny_loadName_local hk hl hn hv h) hd
/-- what __init__ leaves of a fresh exception at x -/
structure InitEnd (h h' : Heap) (x C dx t1 : Addr) (v : Value) : Prop where
  keep : ∀ b o, b ≠ x → h.get? b = some o → h'.get? b = some o
  obj : h'.get? x = some { cls := .ref C, dict := some dx, data := .fields #[.ref t1, .none, .none, .none, .bool false, .none] }
  dbig : h.objs.size ≤ dx
  dne : dx ≠ x
  ns : h'.Ns1 dx (fun y => if y = "value" then some v else none)
/-- a made Low -/
structure OwnMade (h h' : Heap) (e C d : Addr) (v : Value) : Prop where
  keep : ∀ b o, h.get? b = some o → h'.get? b = some o
  new : h.objs.size ≤ e
  obj : ∃ oe vs, h'.get? e = some oe ∧ oe.cls = .ref C ∧ oe.dict = some d ∧ oe.data = .fields vs ∧ vs[1]? = some .none
  dbig : h.objs.size ≤ d
  dne : d ≠ e
  ns : h'.Ns1 d (fun y => if y = "value" then some v else none)
section
variable {prog : Program} {w : World} {A : Around} {E : Value → Shared → Prop} {R : Result → Shared → Prop} {s : Shared} {K : Frag} {mg : Str → Option Value} {C fI : Addr} {cn qn : Str}
theorem low_init (T : LowTxt K mg cn qn C fI) {x t0 : Addr} {v : Value} (X : K.In s.heap) (hlim : s.heap.NoLimit) (hx : s.heap.get? x = some (excO C t0)) (hnx : K.lookup x = none) (hroom : A.depth < recursionLimit)
    (hq : ∀ h' tk dx, InitEnd s.heap h' x C dx t0 v → R (.ok (.ret .none)) { s with heap := h', toks := tk }) :
    codeAny (model prog w) A (.call (.ref fI) ⟨[.ref x, v], []⟩) R s := by
  obtain ⟨oc, od, doc, pm, an, cdv, ct, osl, p1, p2, q1, q2, q3, q4, ho, hcd⟩ := T.fn
  obtain ⟨nm, q, N, bs, bm, sn, sub, ab, col, dd, k0, k1, k2, k3, k5, hC, hbm⟩ := T.cls
  have hcl : clsIn K C = some { name := nm, bases := bs, mro := .ref C :: bm, ns := N, qualname := q, hasDict := true, slotNames := sn, subclasses := sub, abstract := ab, collection := col, hasDel := false } := by unfold clsIn; rw [hC] <;> rfl
  refine Att.call_fn (binds := [("self", .ref x), ("value", v)]) X hlim ho hcd hroom (BindsTo.of_eq (by first | rfl | with_unfolding_all rfl)) (by first | rfl | decide | with_unfolding_all rfl) (fun s₁ IC => ?_) rfl rfl rfl
  obtain ⟨h₁, tk₁, rfl⟩ := IC.toInCall.same
  have k : ∀ b o, s.heap.get? b = some o → h₁.get? b = some o := IC.toInCall.keep
  have hn := IC.toInCall.ns
  have hxL : s.heap.objs.size ≠ x := Nat.ne_of_gt (Heap.lt_size hx)
  have X₁ : K.In h₁ := X.keeps k
  have hx₁ := k _ _ hx
  -- self.by = by
  show wpAny _ _ (execs _ _) _ _ _
  refine wpAny_execs_cons (plainObj_wpAny_Assign_Attribute ?_)
  refine ldC (v := v) hn (by first | rfl | with_unfolding_all rfl | kernel_rfl) (ldC (v := .ref x) hn (by first | rfl | with_unfolding_all rfl | kernel_rfl) ?_)
  refine set_plain X₁ (ox := excO C t0) (od := none) ⟨hx₁, rfl, rfl, trivial⟩ T.sa ?_
  refine exc_osa X₁ hx₁ hcl (show refsVE (.ref C :: bm) = true from hbm) rfl T.noN (fun h₃ tk₃ dx k₃ dn dne hx₃ hn₃ => ?_)
  show wpAny _ _ (execs _ _) _ _ _
  have z : s.heap.objs.size < h₁.objs.size := hn.lt
  exact wpAny_execs_nil (hq h₃ tk₃ dx ⟨fun b o hb e => k₃ b o hb (k b o e), hx₃, Nat.le_of_lt (Nat.lt_of_lt_of_le z dn), dne, hn₃⟩)
theorem low_made (T : LowTxt K mg cn qn C fI) {v : Value} (X : K.In s.heap) (hlim : s.heap.NoLimit) (hroom : A.depth + 1 < recursionLimit)
    (hq : ∀ h' tk e d, OwnMade s.heap h' e C d v → R (.ok (.ret (.ref e))) { s with heap := h', toks := tk }) :
    codeAny (model prog w) A (.call (.ref C) ⟨[v], []⟩) R s := by
  obtain ⟨nm, q, N, bs, bm, sn, sub, ab, col, dd, k0, k1, k2, k3, k5, hC, hbm⟩ := T.cls
  obtain ⟨hp, g, dr, tk, os⟩ := s
  have k : ∀ b o, hp.get? b = some o → ((hp.push (kdv_tup [v])).push (excO C hp.objs.size)).get? b = some o := fun b o e => Heap.get?_push_of_some _ (Heap.get?_push_of_some _ e)
  have hget : ((hp.push (kdv_tup [v])).push (excO C hp.objs.size)).get? (hp.objs.size + 1) = some (excO C hp.objs.size) := by heap_get
  have hnx : K.lookup (hp.objs.size + 1) = none := by
    cases e : K.lookup (hp.objs.size + 1) with
    | none => rfl
    | some o =>
      have z : hp.get? (hp.objs.size + 1) = some o := X _ _ e
      exact absurd (Nat.lt_of_succ_lt (Heap.lt_size z)) (Nat.lt_irrefl _)
  refine call_own F.excBase_ValueError (fun X => refsVE_contains X bm hbm) (X _ _ hC) (looks_findIn X T.iC) (fun self => bind_fn X self T.tC) (one_size v) ?_
  refine low_init (s := ⟨(hp.push (kdv_tup [v])).push (excO C hp.objs.size), g, dr, tk, os⟩) T (X.keeps k) (hlim.keeps k) hget hnx ?_ fun h' tk' dx ⟨k', hx, dn, dne, hns⟩ => ?_
  · show A.depth + 1 < recursionLimit
    exact hroom
  · have old : ∀ b o, hp.get? b = some o → h'.get? b = some o := fun b o e => k' b o (Nat.ne_of_lt (Nat.lt_succ_of_lt (Heap.lt_size e))) (k b o e)
    have z : hp.objs.size + 1 + 1 ≤ dx := by
      first
        | (simpa only [Heap.size_push] using dn)
        | exact dn
        | (have q := dn; rw [Heap.size_push, Heap.size_push] at q; exact q)
    exact ⟨rfl, hq h' tk' (hp.objs.size + 1) dx ⟨old, Nat.le_succ _, ⟨_, _, hx, rfl, rfl, rfl, rfl⟩, Nat.le_trans (Nat.le_trans (Nat.le_succ _) (Nat.le_succ _)) z, dne, hns⟩⟩
end
end ExV
end PySem
namespace L2
open PySem PySem.Spec PyProof.Rows
theorem relO_low {v : V} {v' : Value} (r : RelV v v') (f : Str) : RelO (List.lookup f [(("value" : Str), v)]) (if f = "value" then some v' else none) := by
  by_cases hw : f = "value"
  · subst hw
    rw [if_pos rfl]
    have q : List.lookup ("value" : Str) [(("value" : Str), v)] = some v := by simp [List.lookup]
    rw [q]
    exact r
  · rw [if_neg hw]
    have qw : (f == ("value" : Str)) = false := by simpa using hw
    have q2 : List.lookup f [(("value" : Str), v)] = none := by simp [List.lookup, qw]
    rw [q2]
    trivial
section
variable {X : Cx} {C fI : Addr} {cn qn : Str}
/-- Low(e) -/
def tMkLow (C : Addr) (ta : TA) : St → Hp → XK → Prop := fun σ H Q => ta σ H fun vs H1 => ∃ v, vs = [v] ∧ ∀ d, H1 d = none → Q (.ref C) (some d) (upd H1 d (.xd [(("value" : Str), v)]))
theorem pmk_low {a : Expr} {ta : TA} {p pos : Pos} {k : Nat} (T : PySem.ExV.LowTxt X.K X.mg cn qn C fI) (hr : Room k X.A) (ha : PA X [a] ta) (hdb : (cn == ("__debug__" : Str)) = false := by decide) (hg : Gl X cn := by rfl)
    (he : starEach (a :: []) X.env = (false, eval a X.env) :: starEach [] X.env := by rfl) (hpl : (backTo pos (starEach [] X.env)).any (·.1) = false := by rfl) :
    PMk X (.Call (.Name cn p) [a] [] pos) (tMkLow C ta) := by
  intro pins s σ H Q I h
  refine wpAny_Call_Name_kw (ld_glob I hg T.gC ?_ hdb)
  refine PySem.W.callWith_K (h₀ := X.base) I.ok.mod.kin T.kC (thn (ha.run pos pins s σ H _ I h) fun us s1 hh => ?_) he hpl
  obtain ⟨vs, H1, I1, r1, v, ev, q1⟩ := hh
  subst ev
  refine ⟨I1.kIn, ?_⟩
  cases r1 with
  | cons rv rn =>
    rename_i v' us'
    cases rn
    show wpAny _ _ (call (.ref C) [v']) _ _ _
    have hlim := I1.nolimit
    obtain ⟨hp, g, dr, tk, os⟩ := s1
    refine wpAny_call (PySem.ExV.low_made T I1.kIn hlim (by have := hr.dp; omega) fun h' tk' e d M => ?_)
    show MkP X pins σ Q (.ref e) ⟨h', g, dr, tk', os⟩
    obtain ⟨oe, fv, hoe, hc, hd, hdat, h1⟩ := M.obj
    have hns := M.ns
    obtain ⟨G', g1, g2⟩ := restrict h' fun b => decide (b ≠ e)
    have gk : ∀ b, b ≠ e → G'.get? b = h'.get? b := fun b hb => g1 b (decide_eq_true hb)
    have ge : G'.get? e = none := g2 e (by simp)
    have old : ∀ b o, hp.get? b = some o → G'.get? b = some o := fun b o q => (gk b (Nat.ne_of_lt (Nat.lt_of_lt_of_le (Heap.lt_size q) M.new))).trans (M.keep b o q)
    have ob : ObjOk X.prog X.w (upd H1 d (.xd [(("value" : Str), v)])) G' d (.xd [(("value" : Str), v)]) :=
      ⟨_, hns.at (fun o q => (gk d M.dne).trans q), fun f => relO_low rv f⟩
    have J : Inv X pins σ (upd H1 d (.xd [(("value" : Str), v)])) ⟨G', g, dr, tk', os⟩ := I1.laid (t' := tk') old M.dbig ob
    refine ⟨e, oe, fv, ⟨G', g, dr, tk', os⟩, _, .ref C, some d, rfl, J, fun b o q => ?_, ge, hoe, ⟨hc, hd⟩, hdat, h1, ?_, rfl, I1.bare, raises_own T.exC T.tyC, q1 d (I1.hok.fresh M.dbig)⟩
    · by_cases hb : b = e
      · have q' : G'.get? b = some o := q
        rw [hb, ge] at q'; cases q'
      · exact (gk b hb).symm.trans q
    · rw [upd_ne (Ne.symm M.dne)]
      exact I1.hok.fresh M.new
/-- raise Low(e) -/
def tRaiseLow (C : Addr) (W : WX) (ta : TA) : TS := fun _ σ H => tMkLow C ta σ H fun cls d H' => W cls d σ H'
theorem ps_raiseLow {a : Expr} {ta : TA} {W : WX} {p pos pos2 : Pos} {k : Nat} (hc : X.calm = true) (T : PySem.ExV.LowTxt X.K X.mg cn qn C fI) (hr : Room k X.A) (tk : Takes X W) (ha : PA X [a] ta) (hdb : (cn == ("__debug__" : Str)) = false := by decide) (hg : Gl X cn := by rfl)
    (he : starEach (a :: []) X.env = (false, eval a X.env) :: starEach [] X.env := by rfl) (hpl : (backTo pos (starEach [] X.env)).any (·.1) = false := by rfl) :
    PS X (.Raise (some (.Call (.Name cn p) [a] [] pos)) none pos2) (tRaiseLow C W ta) := ps_raise hc tk (pmk_low T hr ha hdb hg he hpl)
/-- low.by, low the exception that the suite holds (at a; its class cls, its dict d) -/
def tByLow (C : Addr) (a : Addr) (cls : Value) (d : Option Addr) (te : TE) : TE := fun σ H Q => te σ H fun x H1 => x = .ref a ∧ cls = .ref C ∧ ∃ (dd : Addr) (v : V), d = some dd ∧ H1 dd = some (.xd [(("value" : Str), v)]) ∧ Q v H1
theorem pe_byLow {a : Addr} {oe : Obj} {cls : Value} {d : Option Addr} {pn : List (Addr × Obj)} {e : Expr} {te : TE} {pos : Pos} (T : PySem.ExV.LowTxt X.K X.mg cn qn C fI) (hz : Zc cls d oe) (hf : ∃ vs, oe.data = .fields vs) (he : PE (X.suite a ((a, oe) :: pn)) e te)
    (hb : attributeBase e "value" X.env (eval e X.env) = eval e X.env := by rfl) :
    PE (X.suite a ((a, oe) :: pn)) (.Attribute e "value" pos) (tByLow C a cls d te) := by
  refine ⟨fun pins s σ H Q I h => ?_⟩
  refine attr_of hb (thn (he.run pins s σ H _ I h) fun u s1 hh => ?_)
  obtain ⟨x, H1, I1, rx, ex, ec, dd, v, ed, ea, q⟩ := hh
  subst ex
  obtain rfl : u = Value.ref a := rx
  subst ec
  subst ed
  obtain ⟨ha, _⟩ := I1.pin (a, oe) (List.mem_append_left _ List.mem_cons_self)
  obtain ⟨vs, hd⟩ := hf
  have hx : ObjOk X.prog X.w H1 s1.heap dd (.xd [(("value" : Str), v)]) := I1.hok dd _ ea
  obtain ⟨mA, hns, hr⟩ := hx
  obtain ⟨od, ho, hl⟩ := lookIn_ns hns
  have l : List.lookup ("value" : Str) [(("value" : Str), v)] = some v := by simp [List.lookup]
  obtain ⟨u, hu, ru⟩ := RelO.some_of (v := v) (o := mA "value") (by rw [← l]; exact hr "value")
  have J : PySem.W.InstAt s1.heap a oe C (some od) := ⟨ha, hz.1, by unfold PySem.W.notCls; rw [hd] <;> rfl, by rw [hz.2]; exact ho⟩
  exact HandSPX.exc_get I1.kIn J T.ga T.gg T.exC (PySem.W.findObj_own T.hdC T.noN rfl (by rw [hl, hu])) (handed_of ru) ⟨v, H1, I1.tok _, ru, q⟩
end
end L2
set_option Elab.async false
set_option linter.all false
set_option maxRecDepth 100000
set_option maxHeartbeats 2000000
/-! try with several clauses «except C as n» of one name; what no clause takes does not come -/
namespace FR
open PySem PySem.Spec PyProof.Rows L2 TL
/-- behind a suite the clause's name is gone -/
def gone (i : Nat) (D : Ends) : Ends := { nx := fun σ H => D.nx (σ.set i none) H, rt := D.rt, bk := fun σ H => D.bk (σ.set i none) H, ct := fun σ H => D.ct (σ.set i none) H }
def wAsM (K : PySem.W.Frag) (i : Nat) (D : Ends) : List (Value × (Addr → Value → Option Addr → TS)) → WX
  | [] => fun _ _ _ _ => False
  | (c, ts) :: r => fun cls d σ H => ∃ b, PySem.W.exmOne K cls c = some b ∧ (b = true → ∀ a, H a = none → ts a cls d (gone i D) (σ.set i (some (.ref a))) H) ∧ (b = false → wAsM K i D r cls d σ H)
inductive ClausesOk (X : Cx) (n : Str) : List ExceptHandler → List (Value × (Addr → Value → Option Addr → TS)) → Prop
  | nil {hds : List ExceptHandler} : ClausesOk X n hds []
  | cons {x : Str} {c : Value} {ts : Addr → Value → Option Addr → TS} {st : Stmt} {sts : List Stmt} {p1 p2 : Pos} {hds : List ExceptHandler} {l : List (Value × (Addr → Value → Option Addr → TS))} (hc : Names X x c)
      (hsu : ∀ (a : Addr) (oe : Obj) (cls : Value) (d : Option Addr) (pn : List (Addr × Obj)), Zc cls d oe → (∃ vs, oe.data = .fields vs) → PSs (X.suite a ((a, oe) :: pn)) (st :: sts) (ts a cls d)) (r : ClausesOk X n hds l) :
      ClausesOk X n (.ExceptHandler (some (.Name x p1)) (some n) (st :: sts) p2 :: hds) ((c, ts) :: l)
section
variable {X : Cx} {n : Str} {i : Nat} {body : List Stmt} {hd0 : ExceptHandler} {hds : List ExceptHandler} {l : List (Value × (Addr → Value → Option Addr → TS))} {pos : Pos} {tb : WX → TS}
theorem ps_try_asM (hs : X.stack = X.env :: X.outer) (hf : X.env.frame = some X.env.locals) (hN : X.N.Nodup) (hi : X.N[i]? = some n) (hln : X.env.kindOf n = some .local)
    (hb : ∀ (W : WX) (pn : List (Addr × Obj)) (xe : Value → Shared → Prop), Takes (X.tr pn xe) W → PassesOwn (model X.prog X.w) X.A X.env xe → PSs (X.tr pn xe) body (tb W))
    (hh : ClausesOk X n (hd0 :: hds) l) : PS X (.Try body (hd0 :: hds) [] [] pos) (fun D σ H => tb (wAsM X.K i D l) D σ H) := by
  refine ⟨fun pins s σ H D I h => wpAny_Try_except ?_⟩
  have okX := I.ok
  have fr : X.A.frames = some (X.env :: X.outer) := by rw [okX.frames, hs]
  let land : Value → Shared → Prop := fun e s1 => wpAny (model X.prog X.w) X.A (noteFrame e X.env) (fun _ s2 => wpAny (model X.prog X.w) X.A (setFlight e none) (fun _ s3 => wpAny (model X.prog X.w) X.A (handleBy e X.env (hd0 :: hds)) (SP X pins D) X.xe s3) X.xe s2) X.xe s1
  have caught : ∀ (u : Value) (s1 : Shared), XE (X.tr (X.pn ++ pins) land) (wAsM X.K i D l) u s1 → land u s1 := by
    intro u s1 xx
    obtain ⟨a, B, sI, _, σ1, H1, cls, d, rfl, J0, nb, up, sky, na, os, ag, w⟩ := xx
    have J : Inv X pins σ1 H1 sI := J0.ofTry okX
    show wpAny (model X.prog X.w) X.A (noteFrame (.ref a) X.env) _ _ _
    refine Sky.land Zc.steady fr hf (by rw [← hs]; exact sky) fun g1 fl1 up1 => ?_
    have K1 : Inv X pins σ1 H1 { s1 with heap := g1 } := J.landed nb fl1.1 (up.trans up1) os ag
    obtain ⟨ob, fv, e1, z1, d1⟩ := fl1.there
    have out : a ∉ frs (X.env :: X.outer) := fun m => by
      obtain ⟨_, o2, e2, q⟩ := fl1.2.2.1.mem m
      cases e1.symm.trans e2
      exact q _ d1
    have n1 : a ≠ X.env.locals := fun z => out (List.mem_filterMap.mpr ⟨_, List.mem_cons_self, by rw [hf, z]⟩)
    have n2 : a ∉ X.fs := fun m => by
      obtain ⟨e2, m2, q⟩ := List.mem_filterMap.mp m
      exact out (List.mem_filterMap.mpr ⟨e2, List.mem_cons_of_mem _ m2, q⟩)
    have S1 := K1.suite e1 d1 na n1 n2
    have each : ∀ {cs : List ExceptHandler} {ws : List (Value × (Addr → Value → Option Addr → TS))}, ClausesOk X n cs ws → wAsM X.K i D ws cls d σ1 H1 → wpAny (model X.prog X.w) X.A (handleBy (.ref a) X.env cs) (SP X pins D) X.xe { s1 with heap := g1 } := by
      intro cs ws ck
      induction ck with
      | nil => exact fun z => z.elim
      | @cons x c ts st sts p1 p2 more wmore hc hsu _ ih =>
        rintro ⟨b, hm, yes, no⟩
        refine wpAny_handleBy_cons (codeAny_handlers_test ?_) (fun q => by cases q)
        have ty : PySem.W.Looks (model X.prog X.w) g1 (typeOf (.ref a)) cls := fun _ _ _ _ k q => wpAny_typeOf_ref (k _ _ e1) (by rw [z1.1]; exact q)
        have one := PySem.W.exm_one (M := model X.prog X.w) K1.kIn ty hm
        have named : ∀ {Q E : Value → Shared → Prop}, Q c { s1 with heap := g1 } → wpAny (model X.prog X.w) (X.A.mark (some (.ref a))) (eval (.Name x p1) X.env) Q E { s1 with heap := g1 } := by
          intro Q E q
          obtain ⟨y1, y2, y3 | ⟨y3, y4, y5⟩⟩ := hc
          · exact ld_glob (X := X.suite a ((a, ob) :: (X.pn ++ pins))) S1 y1 y3 q y2
          · exact ld_blt (X := X.suite a ((a, ob) :: (X.pn ++ pins))) S1 y1 y3 y4 q y5 y2
        refine named (one.here ?_)
        cases b with
        | false => exact ih (no rfl)
        | true =>
          refine codeAny_handlers_suite_as (HandSPX.lands_againZ fl1 fun g2 fl2 up2 => ?_)
          obtain ⟨oc, fw, e2, z2, d2⟩ := fl2.there
          have K2 : Inv X pins σ1 H1 { s1 with heap := g2 } := J.landed nb fl2.1 ((up.trans up1).trans up2) os ag
          have S2 := K2.suite e2 d2 na n1 n2
          refine store_ok (X := X.suite a ((a, oc) :: (X.pn ++ pins))) (v := .ref a) S2 hN hi (.inl hln) rfl (fun s5 S5 => ?_) (.inr hln)
          refine wpAny_mono ((hsu a oc cls d (X.pn ++ pins) z2 ⟨_, d2⟩).run [] s5 _ H1 _ S5 (yes rfl a na)) (fun f s6 hz => ?_) (fun _ _ z => z.elim)
          have ends : ∀ {σ6 : L2.St} {H6 : Hp} {Q : Shared → Prop}, Inv (X.suite a ((a, oc) :: (X.pn ++ pins))) [] σ6 H6 s6 → (∀ s7, Inv X pins (σ6.set i none) H6 s7 → Q s7) → wpAny (model X.prog X.w) X.A (do bindName X.env n .none; unbindBehindTheSuite X.env n p2) (fun _ s7 => Q s7) X.xe s6 :=
            fun S6 hq => gone_ok (S6.unsuite okX) hN hi hln hq
          match f, hz with
          | .next, ⟨_, _, S6, q6⟩ => exact ends S6 fun _ J7 => ⟨_, _, J7, q6⟩
          | .brk, ⟨_, _, S6, q6⟩ => exact ends S6 fun _ J7 => ⟨_, _, J7, q6⟩
          | .cont, ⟨_, _, S6, q6⟩ => exact ends S6 fun _ J7 => ⟨_, _, J7, q6⟩
          | .ret _, ⟨_, _, _, S6, r6, q6⟩ => exact ends S6 fun _ J7 => ⟨_, _, _, J7, r6, q6⟩
    exact each hh w
  refine wpAny_mono ((hb _ _ land caught PassesOwn.looking).run [] s σ H D (I.toTry _) h) (fun f s1 hz => ?_) (fun _ _ z => z)
  match f, hz with
  | .next, ⟨_, _, J, q⟩ => exact wpAny_execs_nil ⟨_, _, J.ofTry okX, q⟩
  | .brk, ⟨_, _, J, q⟩ => exact ⟨_, _, J.ofTry okX, q⟩
  | .cont, ⟨_, _, J, q⟩ => exact ⟨_, _, J.ofTry okX, q⟩
  | .ret _, ⟨_, _, _, J, r, q⟩ => exact ⟨_, _, _, J.ofTry okX, r, q⟩
end
end FR
set_option Elab.async false
set_option linter.all false
set_option maxRecDepth 100000
/-! isinstance of the exception that a suite holds, one with fields -/
namespace FR
open PySem PySem.Spec PyProof.Rows L2 TL
/-- the exception that the suite holds is one of the class D, with its own dict -/
def HeldE (K : PySem.W.Frag) (cls : Value) (d : Option Addr) (H : Hp) (D : Addr) : Prop := cls = .ref D ∧ ExcC K D ∧ ∃ (dd : Addr) (fs : List (Str × V)), d = some dd ∧ H dd = some (.xd fs)
section
variable {X : Cx} {a : Addr} {oe : Obj} {pn : List (Addr × Obj)} {cls : Value} {d : Option Addr} {pins : List (Addr × Obj)} {σ : L2.St} {H : Hp} {s : Shared} {D : Addr}
theorem kit_held (hz : Zc cls d oe) (hf : ∃ vs, oe.data = .fields vs) (I : Inv (X.suite a ((a, oe) :: pn)) pins σ H s) (h : HeldE X.K cls d H D) : ∃ od, PySem.W.KitX X.K (.ref a) (.ref D) (fun g => PySem.W.InstAt g a oe D (some od)) ∧ PySem.W.InstAt s.heap a oe D (some od) := by
  obtain ⟨rfl, C, dd, fs, rfl, hx⟩ := h
  obtain ⟨hget, _⟩ := I.pin (a, oe) (List.mem_append_left _ List.mem_cons_self)
  obtain ⟨vs, hv⟩ := hf
  obtain ⟨mA, hns, _⟩ := (show ObjOk X.prog X.w H s.heap dd (.xd fs) from I.hok dd _ hx)
  obtain ⟨od, ho, _⟩ := lookIn_ns hns
  obtain ⟨cd, hc, _⟩ := PySem.W.any_some C.hd
  refine ⟨od, PySem.W.kitx_exc (by rw [hc]; rfl) C.hg C.hk C.hs C.ha C.hn C.ht C.hm, hget, hz.1, ?_, ?_⟩
  · unfold PySem.W.notCls
    rw [hv] <;> rfl
  · rw [hz.2]
    exact ho
def rIsH (K : PySem.W.Frag) (a : Addr) (cls : Value) (d : Option Addr) : List V → Hp → VK → Prop := fun xs H Q => ∃ (D : Addr) (c : V) (cv : Value) (b : Bool), HeldE K cls d H D ∧ xs = [.ref a, c] ∧ ClsV c cv ∧ PySem.W.kitOne K (.ref D) cv = some b ∧ Q (.bl b) H
theorem call_isH (hz : Zc cls d oe) (hf : ∃ vs, oe.data = .fields vs) : CallR (X.suite a ((a, oe) :: pn)) (.builtin "isinstance") (rIsH X.K a cls d) := by
  intro pins s σ H xs us Q I r h
  obtain ⟨D, c, cv, b, hh, rfl, hc, e, q⟩ := h
  cases r with
  | cons rx rr =>
    cases rr with
    | cons rt rr =>
      cases rr
      cases (show _ = Value.ref a from rx)
      cases hc.eq rt
      obtain ⟨od, Z, J⟩ := kit_held hz hf I hh
      exact PySem.W.kia_one Z I.kIn J e (fun z => nomatch z) fun tk => ⟨.bl b, H, I.tok tk, rfl, q⟩
def rIsHT (K : PySem.W.Frag) (a : Addr) (cls : Value) (d : Option Addr) : List V → Hp → VK → Prop := fun xs H Q => ∃ (D tp : Addr) (cs : List V) (cvs : List Value) (b : Bool), HeldE K cls d H D ∧ xs = [.ref a, .ref tp] ∧ H tp = some (.tup cs) ∧ Paired ClsV cs cvs ∧ PySem.W.kitAny K (.ref D) cvs = some b ∧ Q (.bl b) H
theorem call_isHT (hz : Zc cls d oe) (hf : ∃ vs, oe.data = .fields vs) : CallR (X.suite a ((a, oe) :: pn)) (.builtin "isinstance") (rIsHT X.K a cls d) := by
  intro pins s σ H xs us Q I r h
  obtain ⟨D, tp, cs, cvs, b, hh, rfl, ht, hc, e, q⟩ := h
  cases r with
  | cons rx rr =>
    cases rr with
    | cons rt rr =>
      cases rr
      cases (show _ = Value.ref a from rx)
      cases (show _ = Value.ref tp from rt)
      obtain ⟨od, Z, J⟩ := kit_held hz hf I hh
      obtain ⟨_, its, rv, ⟨oc, od2, dt, sl⟩, h1, h2, n, h3⟩ := (show ObjOk X.prog X.w H s.heap tp (.tup cs) from I.hok tp _ ht)
      have e3 := ClsV.all hc rv
      subst e3
      simp only at h2 h3
      subst h2 h3
      exact PySem.W.kia_tup Z I.kIn J h1 e (fun z => nomatch z) fun tk => ⟨.bl b, H, I.tok tk, rfl, q⟩
end
end FR
set_option Elab.async false
set_option linter.all false
set_option maxRecDepth 100000
/-! a text beside a dict; «x not in texts» for anything -/
namespace FR
open PySem PySem.Spec PyProof.Rows L2 TL PySem.SeqAt
theorem str_eq_dict (b : Str) (u : Tok) (l : Addr) (c : Value) (es : Array DictEntry) (n : Nat) (dd : Option Addr) (sl : Array (Option Value)) :
    Meets (Builtin.«str.__eq__» ⟨[.str b u, .ref l], []⟩) (fun _ R s => s.heap.get? l = some { cls := c, dict := dd, data := .dict es n, slots := sl } ∧ R (.ok (.ret .notImplemented)) s) :=
  .of_wp fun prog w A R s h => by
    obtain ⟨hp, g, d, tk, os⟩ := s
    obtain ⟨hl, h⟩ := h
    wp_walk using wpAny_loadPart' hl, wpAny_load hl
    exact ⟨_, rfl, h⟩
theorem dict_eq_str (b : Str) (u : Tok) (l : Addr) (c : Value) (es : Array DictEntry) (n : Nat) (dd : Option Addr) (sl : Array (Option Value)) :
    Meets (Builtin.«dict.__eq__» ⟨[.ref l, .str b u], []⟩) (fun _ R s => s.heap.get? l = some { cls := c, dict := dd, data := .dict es n, slots := sl } ∧ R (.ok (.ret .notImplemented)) s) :=
  .of_wp fun prog w A R s h => by
    obtain ⟨hp, g, d, tk, os⟩ := s
    obtain ⟨hl, h⟩ := h
    have f1 := F.sub_str_dict
    wp_walk using wpAny_loadPart' hl, wpAny_load hl
    exact ⟨_, rfl, h⟩
theorem eqAt_str_dict {A : Around} {s : Shared} {l : Addr} {o : Obj} {es : Array DictEntry} {n : Nat} (b : Str) (u : Tok) (ho : s.heap.get? l = some o) (hx : o.cls = .type "dict") (hd : o.data = .dict es n) (hu : A.units < cLine) : EqAt A s (.str b u) (.ref l) false := fun prog w E Q h => by
  unfold eqBool
  refine wpAny_holding (wpAny_ite_split (fun hab => absurd (eq_of_beq hab) nofun) (fun _ => wpAny_bind ?_))
  obtain ⟨cls, dd, data, sl⟩ := o
  simp only at hx hd
  subst hx hd
  exact rc_eq_decline_or (k := false) (typeIs_str s b u) ⟨_, ho, rfl⟩ (by decide) F.sub_dict_str F.slot_str_eq F.slot_dict_eq_refl
    (fun _ hq => call_meets F.slot_str_eq (typeIs_str s b u) F.entry_str_eq (F.args_str_eq_2 _ _) (str_eq_dict b u l (.type "dict") es n dd sl) ⟨ho, hq⟩)
    (fun _ hq => call_meets F.slot_dict_eq_refl ⟨_, ho, rfl⟩ F.entry_dict_eq (F.args_dict_eq_2 _ _) (dict_eq_str b u l _ es n dd sl) ⟨ho, hq⟩)
    (fun _ hq => wpAny_of_eq (rfl : isSame (.str b u) (.ref l) = pure false) hq) (.inr hu) (wpAny_truthy_bool h)
section
variable {X : Cx}
theorem vals_strs : ∀ {ws : List Str} {us : List Value}, Vals (ws.map V.str) us → ∀ u ∈ us, ∃ x t, u = Value.str x t
  | [], _, h, u, hu => by
    cases h
    simp at hu
  | w :: r, _, .cons a b, u, hu => by
    rcases List.mem_cons.mp hu with rfl | hu
    · obtain ⟨t, rfl⟩ := a
      exact ⟨_, t, rfl⟩
    · exact vals_strs b u hu
/-- what «v not in the texts ws» gives -/
def NInW (K : PySem.W.Frag) (H : Hp) (v : V) (ws : List Str) (r : Bool) : Prop := (flatV v = true ∧ (!inV v (ws.map V.str)) = r) ∨ (∃ d, Dp K H v d ∧ SeqAt.shaped d = true ∧ SeqAt.shaped (.list (ws.map .str)) = true ∧ (!(ws.map PyData.str).any fun z => PyData.eqv z d) = r) ∨
  ∃ (a : Addr) (kvs : List (Key × V)), v = .ref a ∧ H a = some (.dK kvs) ∧ true = r
def rNotInW (K : PySem.W.Frag) : R2 := fun x y H Q => ∃ (p : Addr) (ws : List Str) (r : Bool), y = .ref p ∧ SqL K H p (ws.map V.str) ∧ NInW K H x ws r ∧ Q (.bl r) H
theorem op_notInW (hu : X.A.units + 65 < cLine) : OpR X (compareOp .NotIn) (rNotInW X.K) := by
  intro pins s σ H x y v u Q I rx ry h
  obtain ⟨p, ws, r, rfl, hp, ⟨hf, rfl⟩ | ⟨d, hd, s1, s2, rfl⟩ | ⟨a, kvs, rfl, ha, rfl⟩, q⟩ := h
  · exact op_notIn_seq pins s σ H x _ v u Q I rx ry ⟨p, _, rfl, .inl hp, hf, flat_strs ws, q⟩
  · exact op_notInD hu pins s σ H x _ v u Q I rx ry ⟨d, _, hd, .lst hp (dpAll_strs ws), s1, s2, q⟩
  · cases (show v = Value.ref a from rx)
    cases (show u = Value.ref p from ry)
    obtain ⟨_, _, vs, kv, o, es, ep, e, hx, hd, _, _, _⟩ := (show ObjOk X.prog X.w H s.heap a (.dK _) from I.hok _ _ ha)
    obtain ⟨its, rv, hl, _⟩ := I.list hp
    refine notIn_listAt (fun _ => false) hl.isList (fun z hz => ?_) ⟨.bl true, H, I, ?_, q⟩
    · obtain ⟨x, t, rfl⟩ := vals_strs rv z (by simpa using hz)
      exact eqAt_str_dict x t e hx.1 hd (by show X.A.units + 1 < cLine; omega)
    · show Value.bool _ = Value.bool true
      simp
theorem op_notInWK {X : Cx} {K : PySem.W.Frag} (h : X.K = K) (hu : X.A.units + 65 < cLine) : OpR X (compareOp .NotIn) (rNotInW K) := h ▸ op_notInW hu
end
end FR
set_option Elab.async false
set_option linter.all false
set_option maxRecDepth 100000
/-! raising defs with a star parameter, called -/
namespace FR
open PySem PySem.Spec PyProof.Rows L2 TL
theorem okStarX {P : Program} {w : World} {K : PySem.W.Frag} {mg : Str → Option Value} {base : Heap} {x qual pv : Str} {st : Stmt} {f : Addr} {fd : FuncData} {N ps : List Str} {k : Nat} {sp : Sp} (F : L2.Fun K x qual st f fd) (S : FnScope N (ps ++ [pv]) (defScope st))
    (hb : ∀ (kV doc pm : Value) (an : Option Addr) (cdv ct : Value) (us rest : List Value), us.length = ps.length → bindArgs (PySem.W.fnOf x qual (defArgs st) (defBody st) (defScope st) .none kV doc pm an cdv ct) ⟨us ++ rest, []⟩ = (newTuple rest >>= fun t => pure (ps.zip us ++ [(pv, t)])))
    (hbody : ∀ (cdv : Value) (A : Around) (outer : List Env) (s : Shared) (H : Hp) (vs : List V) (Q : VK) (E : XK), Room k (A.deeper (envOfC qual (defScope st) s.heap.objs.size f cdv)) → sp vs H Q E →
      ∃ t, PSs (cxOf (L2.CX P w) P w K mg base N qual (defScope st) f cdv A outer s H E) (defBody st) t ∧ t { nx := fun _ H' => Q .non H', rt := Q } (start N vs) H) :
    FnR P w K mg base (L2.CX P w) (k + 1) f (fun vs H Q E => ∃ ws rest, vs = ws ++ rest ∧ ws.length = ps.length ∧ rest.length ≤ sizeLine ∧ ∀ p, H p = Option.none → sp (ws ++ [V.ref p]) (upd H p (.tup rest)) Q E) := by
  obtain ⟨oc, od, kV, doc, pm, an, cdv, ct, osl, rfl, lk, hcd⟩ := F.ex
  exact StX.fn_star lk hcd S StX.cxUp (hb kV doc pm an cdv ct) fun A outer s H vs Q E hr hsp => hbody cdv A outer s H vs Q E hr hsp
section
variable {X : Cx} {CX : CXT} {k : Nat} {f : Addr} {sp : Sp} {E : L2.St → XK} {x : Str} {e : Expr} {es : List Expr} {t : TA} {p pos : Pos}
theorem pe_callRX (F : FnR X.prog X.w X.K X.mg X.base CX k f sp) (hr : Room k X.A) (hk : PySem.W.keepIn X.K (.ref f) = true) (hg : Gl X x) (hm : X.mg x = some (.ref f)) (hx : ∀ σ, PassesAt CX X σ (E σ)) (ha : PA X (e :: es) t) (hd : (x == ("__debug__" : Str)) = false := by decide)
    (he : starEach (e :: es) X.env = (false, eval e X.env) :: starEach es X.env := by rfl) (hpl : (backTo pos (starEach es X.env)).any (·.1) = false := by rfl) :
    PE X (.Call (.Name x p) (e :: es) [] pos) (fun σ H Q => t σ H fun vs H1 => sp vs H1 Q (E σ)) := ⟨fun pins s σ H Q I h => by
  refine wpAny_Call_Name_kw (ld_glob I hg hm (PySem.W.callWith_K (h₀ := X.base) I.ok.mod.kin hk (thn (ha.run pos pins s σ H _ I h) fun us s1 hz => ?_) he hpl) hd)
  obtain ⟨vs, H1, I1, r, q⟩ := hz
  refine ⟨I1.kIn, wpAny_call (codeAny_mono (F X.A X.stack s1 H1 us vs Q (E σ) hr I1.env0 r q) fun rr s' hq => ?_)⟩
  match rr, hq with
  | .error ee, hq => exact hx σ pins H1 s1 ee s' I1 hq
  | .ok (.ret u), hq => exact I1.after hq
  | .ok .next, hq => exact hq.elim
  | .ok .brk, hq => exact hq.elim
  | .ok .cont, hq => exact hq.elim⟩
end
end FR
set_option Elab.async false
set_option linter.all false
set_option maxRecDepth 100000
/-! how long a shown list is; facts that hang on some addresses alone -/
namespace FR
open PySem PySem.Spec PyProof.Rows L2 TL
theorem len_sep : (Str.ofString ", ").length = 2 := by decide +kernel
theorem len_open : (Str.ofString "[").length = 1 := by decide +kernel
theorem len_close : (Str.ofString "]").length = 1 := by decide +kernel
theorem len_none : (Str.ofString "").length = 0 := by decide +kernel
theorem shown3 (a b c : PyData) : (PyData.list [a, b, c]).shown.length = a.shown.length + b.shown.length + c.shown.length + 6 := by
  show (listText [a.shown, b.shown, c.shown]).length = _
  unfold listText
  rw [len_app, len_close]
  show ((((((Str.ofString "[" ++ Str.ofString "") ++ a.shown) ++ Str.ofString ", ") ++ b.shown) ++ Str.ofString ", ") ++ c.shown).length + 1 = _
  rw [len_app, len_app, len_app, len_app, len_app, len_app, len_open, len_none, len_sep]
  omega
theorem shown2 (a b : PyData) : (PyData.list [a, b]).shown.length = a.shown.length + b.shown.length + 4 := by
  show (listText [a.shown, b.shown]).length = _
  unfold listText
  rw [len_app, len_close]
  show ((((Str.ofString "[" ++ Str.ofString "") ++ a.shown) ++ Str.ofString ", ") ++ b.shown).length + 1 = _
  rw [len_app, len_app, len_app, len_app, len_open, len_none, len_sep]
  omega
theorem Keep.trans0 {H H1 : Hp} {D : Addr} {o : HO} (k : Keep [] H H1) (hD : H D = none) : Keep [] H (upd H1 D o) := fun b u e hb => by
  rw [upd_ne (ne_of_none e hD)]
  exact k b u e hb
def Held (S : List Addr) (H : Hp) (F : Hp → Prop) : Prop := (∀ a ∈ S, H a ≠ none) ∧ ∀ H', (∀ a ∈ S, H' a = H a) → F H'
section
variable {S T M : List Addr} {H H' : Hp} {F G : Hp → Prop}
theorem Held.at (h : Held S H F) : F H := h.2 H fun _ _ => rfl
theorem Held.mono (h : Held S H F) (k : Keep M H H') (d : ∀ a ∈ S, a ∉ M) : Held S H' F := by
  have e : ∀ a ∈ S, H' a = H a := fun a ha => by
    cases e : H a with
    | none => exact absurd e (h.1 a ha)
    | some o => exact k a o e (d a ha)
  exact ⟨fun a ha => by rw [e a ha]; exact h.1 a ha, fun H2 e2 => h.2 H2 fun a ha => (e2 a ha).trans (e a ha)⟩
theorem Held.mono0 (h : Held S H F) (k : Keep [] H H') : Held S H' F := h.mono k (by simp)
theorem Held.and (h : Held S H F) (g : Held T H G) : Held (S ++ T) H (fun H => F H ∧ G H) :=
  ⟨fun a ha => (List.mem_append.mp ha).elim (h.1 a) (g.1 a), fun H2 e => ⟨h.2 H2 fun a ha => e a (List.mem_append_left _ ha), g.2 H2 fun a ha => e a (List.mem_append_right _ ha)⟩⟩
theorem Held.imp (h : Held S H F) (i : ∀ H, F H → G H) : Held S H G := ⟨h.1, fun H2 e => i _ (h.2 H2 e)⟩
theorem Held.none (h : ∀ H, F H) : Held [] H F := ⟨by simp, fun H2 _ => h H2⟩
theorem Held.one {a : Addr} {o : HO} (h : H a = some o) (i : ∀ H2 : Hp, H2 a = some o → F H2) : Held [a] H F := ⟨fun x hx => by rw [List.mem_singleton.mp hx, h]; simp, fun H2 e => i H2 ((e a (by simp)).trans h)⟩
theorem Held.fresh (h : Held S H F) {p : Addr} (np : H p = Option.none) : p ∉ S := fun hp => h.1 p hp np
end
theorem Dq.mono {H H' : Hp} (k : Keep [] H H') {v : V} {d : PyData} (h : Dq H v d) : Dq H' v d := by
  refine Dq.rec (motive_1 := fun v d _ => Dq H' v d) (motive_2 := fun vs ds _ => DqAll H' vs ds) (motive_3 := fun vs ds _ => DqKv H' vs ds) .non .bl .int .str ?_ ?_ ?_ .nil (fun _ _ a b => .cons a b) .nil (fun _ _ a b => .cons a b) h
  · intro a xs ds hx hb _ ih
    exact .lst (k _ _ hx (by simp)) hb ih
  · intro a xs ds hx _ ih
    exact .tup (k _ _ hx (by simp)) ih
  · intro a kvs ds hx _ ih
    exact .dct (k _ _ hx (by simp)) ih
theorem u65 {k : Nat} {A : Around} (r : Room k A) : A.units + 65 < cLine := by have := r.un; omega
theorem okG0 {P : Program} {w : World} {K : PySem.W.Frag} {mg : Str → Option Value} {base : Heap} {k : Nat} {f : Addr} {sp : Sp} {x qual : Str} {st : Stmt} {fd : FuncData} {N ps : List Str} (F : L2.Fun K x qual st f fd) (S : FnScope N ps (defScope st)) (B : Binds K fd ps []) (hlen : ∀ vs H Q E, sp vs H Q E → vs.length = ps.length)
    (hbody : ∀ (cdv : Value) (A : Around) (outer : List Env) (s : Shared) (H : Hp) (vs : List V) (Q : VK) (E : XK), A.guards = some [] → Room k (A.deeper (envOfC qual (defScope st) s.heap.objs.size f cdv)) → sp vs H Q E →
      ∃ t, PSs (cxOf CX0 P w K mg base N qual (defScope st) f cdv A outer s H E).nox (defBody st) t ∧ t { nx := fun _ H' => Q .non H', rt := Q } (start N vs) H) : FnG P w K mg base CX0 (k + 1) f sp :=
  okG F S B hlen fun cdv A outer s H vs Q E hg hr hs => (hbody cdv A outer s H vs Q E hg hr hs).elim fun t h => ⟨t, h.1.nox, h.2⟩
end FR
set_option Elab.async false
set_option linter.all false
set_option maxRecDepth 100000
/-! what `except` and isinstance say of two classes of the text -/
namespace FR
open PySem PySem.Spec PyProof.Rows L2
/-- an error of the class at S is what «except T» names, or not -/
theorem exm_of {K : PySem.W.Frag} {t S : Addr} {b : Bool} (h1 : PySem.W.subIn K (.ref S) (.type "BaseException") = some true) (h2 : PySem.W.isClsIn K S = true) (h3 : PySem.W.typeIn K (.ref S) = some (.type "type")) (h4 : PySem.W.subIn K (.ref t) (.ref S) = some b) :
    PySem.W.exmOne K (.ref t) (.ref S) = some b := by
  have e1 : (PySem.W.subIn K (.ref S) (.type "BaseException") == some true) = true := by rw [h1] <;> rfl
  have e2 : ((PySem.W.clsIn K S).isSome && PySem.W.typeIn K (.ref S) == some (.type "type")) = true := by
    rw [show (PySem.W.clsIn K S).isSome = true from h2, h3] <;> rfl
  unfold PySem.W.exmOne
  rw [if_pos e1]
  show (if ((PySem.W.clsIn K S).isSome && PySem.W.typeIn K (.ref S) == some (.type "type")) = true then PySem.W.subIn K (.ref t) (.ref S) else none) = some b
  rw [if_pos e2]
  exact h4
theorem kit_of {K : PySem.W.Frag} {t S : Addr} {b : Bool} (hs : PySem.W.subIn K (.ref t) (.ref t) = some true) (h2 : PySem.W.isClsIn K S = true) (h3 : PySem.W.typeIn K (.ref S) = some (.type "type")) (h4 : PySem.W.subIn K (.ref t) (.ref S) = some b) :
    PySem.W.kitOne K (.ref t) (.ref S) = some b := by
  have e2 : ((PySem.W.clsIn K S).isSome && PySem.W.typeIn K (.ref S) == some (.type "type")) = true := by
    rw [show (PySem.W.clsIn K S).isSome = true from h2, h3] <;> rfl
  unfold PySem.W.kitOne
  by_cases e : ((Value.ref t : Value) == .ref S) = true
  · rw [if_pos e]
    have e' : t = S := by simpa using e
    subst e'
    exact hs.symm.trans h4
  · rw [if_neg e]
    show (if ((PySem.W.clsIn K S).isSome && PySem.W.typeIn K (.ref S) == some (.type "type")) = true then PySem.W.subIn K (.ref t) (.ref S) else none) = some b
    rw [if_pos e2]
    exact h4

end FR
set_option Elab.async false
set_option linter.all false
set_option maxRecDepth 100000
/-! operators, `in`, len, bool, str and == of own classes whose instances have a dict -/
namespace FR
open PySem PySem.Spec PyProof.Rows L2 TL
open SlX (cmpback run_at)
section
variable {X : Cx} {pins : List (Addr × Obj)} {σ : L2.St} {H : Hp} {s : Shared} {C g : Addr} {n : Nat} {sp : Sp} {E : XK} {CX : CXT}
theorem ins_inst {a dx : Addr} {fs : List (Str × V)} (I : Inv X pins σ H s) (e : H a = some (.ins C dx fs)) : ∃ od, PySem.W.InstAt s.heap a (PySem.W.instObj C dx) C (some od) := by
  obtain ⟨mA, O, _⟩ := ins_get I.hok e
  obtain ⟨od, J, _⟩ := O.look
  exact ⟨od, J⟩
/-- x op y, both of the class at C, its def for op at g -/
def rBinI (C : Addr) (sp : Sp) (E : XK) : R2 := fun x y H Q => ∃ a dx fs b dy gs, x = .ref a ∧ y = .ref b ∧ H a = some (.ins C dx fs) ∧ H b = some (.ins C dy gs) ∧ sp [x, y] H Q E
theorem op_binI {op : Operator} (hc : PySem.W.selfFirst X.K C = true) (hs : PySem.W.findIn X.K (.ref C) (PySem.dunder op.info.2) = some (some (.ref g))) (hf : PySem.W.isFn X.K (.ref g) = true) (F : FnR X.prog X.w X.K X.mg X.base CX n g sp)
    (hr : Room n X.A) (hx : Passes CX X E) : OpR X (binaryOp op) (rBinI C sp E) := by
  intro pins s σ H x y v u Q I rx ry h
  obtain ⟨a, dx, fs, b, dy, gs, rfl, rfl, ha, hb, q⟩ := h
  cases (show v = Value.ref a from rx)
  cases (show u = Value.ref b from ry)
  obtain ⟨od, J⟩ := ins_inst I ha
  obtain ⟨od', J'⟩ := ins_inst I hb
  obtain ⟨m, hF⟩ := I.fr
  refine PySem.W.binop_K (op := op) hF I.ok.mod.kin J J'.type hc hs hf ?_
  refine wpAny_mono (wpAny_call (run_fnR (us := [.ref a, .ref b]) (vs := [.ref a, .ref b]) F hr hx I (.cons rfl (.cons rfl .nil)) q)) (fun w s' z => ?_) fun _ _ x => x
  obtain ⟨z', H', I', rz, qz⟩ := z
  exact cmpback rz ⟨z', H', I', rz, qz⟩
/-- ~x -/
def rInvI (C : Addr) (sp : Sp) (E : XK) : V → Hp → VK → Prop := fun x H Q => ∃ a dx fs, x = .ref a ∧ H a = some (.ins C dx fs) ∧ sp [x] H Q E
theorem un_invI (hs : PySem.W.findIn X.K (.ref C) "__invert__" = some (some (.ref g))) (hf : PySem.W.isFn X.K (.ref g) = true) (F : FnR X.prog X.w X.K X.mg X.base CX n g sp)
    (hr : Room n X.A) (hx : Passes CX X E) : UnR X (unaryOp .Invert) (rInvI C sp E) := by
  intro pins s σ H x v Q I rx h
  obtain ⟨a, dx, fs, rfl, ha, q⟩ := h
  cases (show v = Value.ref a from rx)
  obtain ⟨od, J⟩ := ins_inst I ha
  obtain ⟨m, hF⟩ := I.fr
  exact PySem.W.ksp_inv hF I.ok.mod.kin J hs hf (wpAny_call (run_fnR (us := [.ref a]) (vs := [.ref a]) F hr hx I (.cons rfl .nil) q))
/-- x op y (a comparison), x of the class at C whose def for it is at g, y an instance of it too -/
def rCmpI (C : Addr) (sp : Sp) (E : XK) : R2 := fun x y H Q => ∃ a dx fs b dy gs, x = .ref a ∧ y = .ref b ∧ H a = some (.ins C dx fs) ∧ H b = some (.ins C dy gs) ∧ sp [x, y] H Q E
theorem op_cmpI {op : CmpOp} (hop : ∀ a b, compareOp op a b = richCompare op a b) (hs : PySem.W.findIn X.K (.ref C) (cmpInfo op).2.1 = some (some (.ref g))) (hf : PySem.W.isFn X.K (.ref g) = true) (F : FnR X.prog X.w X.K X.mg X.base CX n g sp)
    (hr : Room n X.A) (hx : Passes CX X E) : OpR X (compareOp op) (rCmpI C sp E) := by
  intro pins s σ H x y v u Q I rx ry h
  obtain ⟨a, dx, fs, b, dy, gs, rfl, rfl, ha, hb, q⟩ := h
  cases (show v = Value.ref a from rx)
  cases (show u = Value.ref b from ry)
  obtain ⟨od, J⟩ := ins_inst I ha
  obtain ⟨od', J'⟩ := ins_inst I hb
  obtain ⟨m, hF⟩ := I.fr
  rw [hop]
  refine PySem.W.cmp_K (op := op) (tb := .ref C) hr.units0 hF I.ok.mod.kin J J'.type (by unfold PySem.W.notFirst; simp) hs hf ?_
  refine wpAny_mono (wpAny_call (run_fnR (us := [.ref a, .ref b]) (vs := [.ref a, .ref b]) F hr hx I (.cons rfl (.cons rfl .nil)) q)) (fun w s' z => ?_) fun _ _ x => x
  obtain ⟨z', H', I', rz, qz⟩ := z
  exact cmpback rz ⟨z', H', I', rz, qz⟩
/-- v in x, x of the class at C; the answer of its def is a boolean -/
def rInI (C : Addr) (sp : Sp) (E : XK) : R2 := fun v x H Q => ∃ a dx fs, x = .ref a ∧ H a = some (.ins C dx fs) ∧ sp [x, v] H (fun z H' => ∃ b, z = .bl b ∧ Q (.bl b) H') E
theorem op_inI (hs : PySem.W.findIn X.K (.ref C) "__contains__" = some (some (.ref g))) (hf : PySem.W.isFn X.K (.ref g) = true) (F : FnR X.prog X.w X.K X.mg X.base CX n g sp)
    (hr : Room n X.A) (hx : Passes CX X E) : OpR X (compareOp .In) (rInI C sp E) := by
  intro pins s σ H x y v u Q I rx ry h
  obtain ⟨a, dx, fs, rfl, ha, q⟩ := h
  cases (show u = Value.ref a from ry)
  obtain ⟨od, J⟩ := ins_inst I ha
  obtain ⟨m, hF⟩ := I.fr
  refine PySem.W.in_K hF I.ok.mod.kin J hs hf (wpAny_mono (wpAny_call (run_fnR (us := [.ref a, v]) (vs := [.ref a, x]) F hr hx I (.cons rfl (.cons rx .nil)) q)) (fun w s' z => ?_) fun _ _ x => x)
  obtain ⟨z', H', I', rz, b, eb, qz⟩ := z
  subst eb
  cases (show w = Value.bool b from rz)
  exact wpAny_truthy_bool ⟨.bl b, H', I', rfl, qz⟩
/-- the truth of x, of the class at C with an own __bool__ -/
def rTruI (C : Addr) (sp : Sp) (E : XK) : V → Hp → (Bool → Hp → Prop) → Prop := fun x H Q => ∃ a dx fs, x = .ref a ∧ H a = some (.ins C dx fs) ∧ sp [x] H (fun z H' => ∃ b, z = .bl b ∧ Q b H') E
theorem tru_I (hs : PySem.W.findIn X.K (.ref C) "__bool__" = some (some (.ref g))) (hf : PySem.W.isFn X.K (.ref g) = true) (F : FnR X.prog X.w X.K X.mg X.base CX n g sp)
    (hr : Room n X.A) (hx : Passes CX X E) : TruR X (rTruI C sp E) := by
  intro pins s σ H x v Q I rx h
  obtain ⟨a, dx, fs, rfl, ha, q⟩ := h
  cases (show v = Value.ref a from rx)
  obtain ⟨od, J⟩ := ins_inst I ha
  obtain ⟨m, hF⟩ := I.fr
  refine PySem.W.truthy_K hF I.ok.mod.kin J hs hf (wpAny_mono (wpAny_call (run_fnR (us := [.ref a]) (vs := [.ref a]) F hr hx I (.cons rfl .nil) q)) (fun w s' z => ?_) fun _ _ x => x)
  obtain ⟨z', H', I', rz, b, eb, qz⟩ := z
  subst eb
  cases (show w = Value.bool b from rz)
  exact ⟨H', I', qz⟩
/-- len(x), x of the class at C with an own __len__ -/
def rLenI (C : Addr) (sp : Sp) (E : XK) : List V → Hp → VK → Prop := fun xs H Q => ∃ a dx fs, xs = [.ref a] ∧ H a = some (.ins C dx fs) ∧ sp xs H (fun z H' => ∃ i, z = .int i ∧ 0 ≤ i ∧ i < 2 ^ 63 ∧ Q (.int i) H') E
theorem call_lenI (hs : PySem.W.findIn X.K (.ref C) "__len__" = some (some (.ref g))) (hf : PySem.W.isFn X.K (.ref g) = true) (F : FnR X.prog X.w X.K X.mg X.base CX n g sp)
    (hr : Room (n + 1) X.A) (hx : Passes CX X E) : CallR X (.builtin "len") (rLenI C sp E) := by
  intro pins s σ H xs us Q I r h
  obtain ⟨a, dx, fs, rfl, ha, q⟩ := h
  obtain ⟨u, rfl, ru⟩ := r.one
  cases (show u = Value.ref a from ru)
  obtain ⟨od, J⟩ := ins_inst I ha
  obtain ⟨m, hF⟩ := I.fr
  refine PySem.W.len_K hF I.ok.mod.kin J hs hf (wpAny_mono (wpAny_call (run_at (us := [.ref a]) (ws := [.ref a]) F hr.in1 I.env0.in1 hx I (.cons rfl .nil) q)) (fun w s' z => ?_) fun _ _ x => x)
  obtain ⟨z', H', I', rz, i, ei, h0, h1, qz⟩ := z
  subst ei
  obtain ⟨t, e⟩ := (show ∃ t, w = Value.int i t from rz)
  cases e
  exact ⟨⟨h0, h1⟩, .int i, H', I'.tok _, ⟨_, rfl⟩, qz⟩
/-- str(x), x of the class at C with an own __str__ -/
def rStrI (C : Addr) (sp : Sp) (E : XK) : List V → Hp → VK → Prop := fun xs H Q => ∃ a dx fs, xs = [.ref a] ∧ H a = some (.ins C dx fs) ∧ sp xs H (fun z H' => ∃ t, z = .str t ∧ Q (.str t) H') E
theorem call_strI (hs : PySem.W.findIn X.K (.ref C) "__str__" = some (some (.ref g))) (hf : PySem.W.isFn X.K (.ref g) = true) (F : FnR X.prog X.w X.K X.mg X.base CX n g sp)
    (hr : Room (n + 2) X.A) (hx : Passes CX X E) : CallR X (.type "str") (rStrI C sp E) := by
  intro pins s σ H xs us Q I r h
  obtain ⟨a, dx, fs, rfl, ha, q⟩ := h
  obtain ⟨u, rfl, ru⟩ := r.one
  cases (show u = Value.ref a from ru)
  obtain ⟨od, J⟩ := ins_inst I ha
  have hr2 : Room n X.A.in1.in1 := (show Room (n + 1) X.A.in1 from Room.in1 hr).in1
  refine PySem.W.kso_call hr2.units0 I.kIn J hs hf (wpAny_mono (wpAny_call (run_at (us := [.ref a]) (ws := [.ref a]) F hr2 I.env0.in1.in1 hx I (.cons rfl .nil) q)) (fun w s' z => ?_) fun _ _ x => x)
  obtain ⟨z', H', I', rz, t, et, qz⟩ := z
  subst et
  obtain ⟨t', e⟩ := (show ∃ t', w = Value.str t t' from rz)
  cases e
  exact ⟨.str t, H', I', ⟨_, rfl⟩, qz⟩
end
end FR
set_option Elab.async false
set_option linter.all false
set_option maxRecDepth 100000
/-! x op= y of own classes without a def of their own for op= -/
namespace FR
open PySem PySem.W PySem.Calls PyProof.Rows
section
variable {prog : Program} {w : World} {M : Model} {A : Around} {E : Value → Shared → Prop} {s : Shared} {K : Frag} {x C L f : Addr} {h₀ : Heap} {m : Str → Option Value} {ox : Obj} {od : Option Obj} {nm : String} {cd : ClassData}
theorem inplace_no {h : Heap} {add : Bool} (X : K.In h) (hc : clsIn K C = some cd) (hm : cd.mro = [.ref C, .type "object"]) (h1 : findIn K (.ref C) (dunderI nm) = some none) (h2 : findIn K (.type "object") (dunderI nm) = some none) :
    Looks M h (fillsInplaceSlot (.ref C) nm add) false := by
  intro A Q E s k q
  have Lm : Looks M h (mroOf (.ref C)) cd.mro := (looks_clsIn X hc).andThen (f := fun cd => pure cd.mro) .now
  have Lm' := Lm.keeps k
  obtain ⟨hh, g, d, tk, os⟩ := s
  have X' : K.In hh := X.keeps k
  have L1 : Looks M hh (typeLookup (.ref C) (dunderI nm)) none := looks_findIn X' h1
  have L2 : Looks M hh (typeLookup (.type "object") (dunderI nm)) none := looks_findIn X' h2
  unfold fillsInplaceSlot
  refine wpAny_bind (Lm'.at ?_)
  rw [hm, List.anyM_cons]
  refine wpAny_bind ?_
  repeat lk
  exact q
theorem bin1_own {b : Value} {Q : Value → Shared → Prop} (X : K.In s.heap) (I : InstAt s.heap x ox C od) (hb : Looks M s.heap (typeOf b) (.ref C)) (hc : clsIn K C = some cd) (hm : cd.mro = [.ref C, .type "object"])
    (hs : findIn K (.ref C) (PySem.dunder nm) = some (some (.ref f))) (hf : isFn K (.ref f) = true)
    (h : wpAny M A (call (.ref f) [.ref x, b]) (PySem.W.CmpBack Q) E s) : wpAny M A (binaryOp1 nm (.ref x) b) (fun r s' => ∃ v, r = some v ∧ Q v s') E s := by
  have one := ksp_try X I hs hf h
  obtain ⟨hh, g, d, tk, os⟩ := s
  have L1 : Looks M hh (typeOf (.ref x)) (.ref C) := I.type
  have L2 : Looks M hh (typeOf b) (.ref C) := hb
  have L3 : Looks M hh (fillsNumberSlot (.ref C) nm) true := fills_K X hc hm hs
  unfold binaryOp1
  refine wpAny_bind (L1.at (wpAny_bind (L2.at (wpAny_bind (L3.at ?_)))))
  simp only [beq_self_eq_true, if_true]
  ksp_lk
  refine wpAny_mono one (fun r s' hr' => ?_) fun _ _ e => e
  obtain ⟨v, rfl, hq⟩ := hr'
  ksp_lk
  exact ⟨_, rfl, hq⟩
theorem inplace_own {op : Operator} {b : Value} {Q : Value → Shared → Prop} (X : K.In s.heap) (I : InstAt s.heap x ox C od) (hb : Looks M s.heap (typeOf b) (.ref C)) (hc : clsIn K C = some cd) (hm : cd.mro = [.ref C, .type "object"])
    (h1 : findIn K (.ref C) (dunderI op.info.2) = some none) (h2 : findIn K (.type "object") (dunderI op.info.2) = some none)
    (hs : findIn K (.ref C) (PySem.dunder op.info.2) = some (some (.ref f))) (hf : isFn K (.ref f) = true)
    (h : wpAny M A (call (.ref f) [.ref x, b]) (PySem.W.CmpBack Q) E s) : wpAny M A (inplaceOp op (.ref x) b) Q E s := by
  have one := bin1_own X I hb hc hm hs hf h
  obtain ⟨hh, g, d, tk, os⟩ := s
  have L1 : Looks M hh (typeOf (.ref x)) (.ref C) := I.type
  have L2 : Looks M hh (fillsInplaceSlot (.ref C) op.info.2 (op == .Add)) false := inplace_no X hc hm h1 h2
  unfold inplaceOp
  refine wpAny_holding ?_
  refine wpAny_bind (L1.at (wpAny_bind (L2.at ?_)))
  simp only [Bool.false_eq_true, if_false]
  refine wpAny_bind (wpAny_mono one (fun r s' hr' => ?_) fun _ _ e => e)
  obtain ⟨v, rfl, hq⟩ := hr'
  exact wpAny_pure hq
theorem ifBound_slot {name : Str} {id : String} {args : List Value} {Q : Option Value → Shared → Prop} (X : K.In s.heap) (I : InstAt s.heap x ox C od) (hs : findIn K (.ref C) name = some (some (.builtin id)))
    (hb : ∀ self, bindSpecial (.builtin id) self = pure (.builtin id, [self])) (h : wpAny M A (call (.builtin id) (.ref x :: args)) (fun v => Q (some v)) E s) : wpAny M A (callSpecialIfBound? (.ref x) name args) Q E s := by
  simp only [callSpecialIfBound?, bindSpecialIfBound?]
  refine wpAny_holding (wpAny_bind (wpAny_bind (wpAny_bind (I.type.here ((looks_findIn X hs).here ?_)))))
  simp only [hb]
  refine wpAny_bind (wpAny_askSetting (wpAny_ite ?_))
  have fin : wpAny M A (call (.builtin id) ([.ref x] ++ args) >>= fun v => pure (some v)) Q E s := wpAny_bind (wpAny_mono h (fun v s' h' => wpAny_pure h') fun _ _ h' => h')
  split
  · exact wpAny_bind (wpAny_pure (wpAny_pure (by exact fin)))
  · exact wpAny_tryCatch (wpAny_bind (wpAny_pure (wpAny_pure (by exact fin))))
open Builtin in
/-- object's «not equal» where the class has its own «equal», which answers a boolean -/
theorem objNe_own {b : Value} {Q : Value → Shared → Prop} (hu : A.in1.units < cLine) (X : K.In s.heap) (I : InstAt s.heap x ox C od) (hm : mroIn K C (.type "object") = some true) (hs : findIn K (.ref C) "__eq__" = some (some (.ref f))) (hf : isFn K (.ref f) = true)
    (h : wpAny (model prog w) A.in1 (call (.ref f) [.ref x, b]) (fun r s' => ∃ v, r = .bool v ∧ Q (.bool (!v)) s') E s) : wpAny (model prog w) A (call (.builtin "object.__ne__") [.ref x, b]) Q E s := by
  refine wpAny_call (codeAny_call_builtin PySem.F.cmp_object.ne.plain PySem.F.cmpEntry_ne (check_slot (i := "object.__ne__") (owner := "object") (n := "__ne__") (by decide +kernel) (by decide +kernel) (I.type.andThen (looks_mroIn X hm)) (PySem.F.cmpArgs_ne _ _) ?_))
  unfold Builtin.«object.__ne__»
  refine wpAny_bind (m := slotArgs "__ne__" 1 _) (wpAny_pure ?_)
  refine wpAny_bind (m := cRoomFor _ _) (wpAny_cRoomFor hu ?_)
  refine wpAny_bind (m := callSpecialIfBound? (.ref x) (Str.ofString "__eq__") _) (ifBound_K X I hs hf (wpAny_mono h (fun r s' hq => ?_) fun _ _ y => y))
  obtain ⟨v, rfl, q⟩ := hq
  refine wpAny_bind (wpAny_truthy_bool ?_)
  exact wpAny_pure q
/-- x != b where the class of x has an own «equal» alone -/
theorem rc_ne_own {b tb : Value} {Q : Value → Shared → Prop} (hu : A.units < cLine) (hu1 : A.in1.units < cLine) (X : K.In s.heap) (I : InstAt s.heap x ox C od) (hb : Looks (model prog w) s.heap (typeOf b) tb) (hn : notFirst K C tb = true)
    (hm : mroIn K C (.type "object") = some true) (hne : findIn K (.ref C) "__ne__" = some (some (.builtin "object.__ne__"))) (hs : findIn K (.ref C) "__eq__" = some (some (.ref f))) (hf : isFn K (.ref f) = true)
    (h : wpAny (model prog w) A.in1 (call (.ref f) [.ref x, b]) (fun r s' => ∃ v, r = .bool v ∧ Q (.bool (!v)) s') E s) : wpAny (model prog w) A (richCompare .NotEq (.ref x) b) Q E s := by
  have one : wpAny (model prog w) A (tryCompare (.ref x) (cmpInfo .NotEq).2.1 b) (fun r s' => ∃ v, r = some v ∧ Q v s') E s := by
    unfold tryCompare
    refine wpAny_bind (ifBound_slot X I hne PySem.F.cmp_object.ne.bind (objNe_own hu1 X I hm hs hf (wpAny_mono h (fun v s' hv => ?_) fun _ _ e => e)))
    obtain ⟨v, rfl, q⟩ := hv
    exact ⟨v, rfl, wpAny_pure ⟨_, rfl, q⟩⟩
  unfold richCompare
  simp only [oneThing_ref]
  refine wpAny_holding (wpAny_bind (wpAny_cRoomFor hu ?_))
  refine wpAny_bind (I.type.here (wpAny_bind (hb.here ?_)))
  split
  · rename_i q
    have e : subIn K tb (.ref C) = some false := by
      rcases Bool.or_eq_true_iff.mp hn with e | e
      · rw [beq_iff_eq.mp e] at q; simp at q
      · exact beq_iff_eq.mp e
    refine wpAny_bind ((looks_subIn X e).here ?_)
    simp only [Bool.false_eq_true, if_false]
    refine wpAny_bind (wpAny_mono one (fun r s' z => ?_) fun _ _ e => e)
    obtain ⟨v, rfl, hq⟩ := z
    exact wpAny_pure hq
  · refine wpAny_bind (wpAny_pure ?_)
    simp only [Bool.false_eq_true, if_false]
    refine wpAny_bind (wpAny_mono one (fun r s' z => ?_) fun _ _ e => e)
    obtain ⟨v, rfl, hq⟩ := z
    exact wpAny_pure hq
end
section
open L2
open SlX (cmpback run_at)
variable {X : Cx} {C g : Addr} {n : Nat} {sp : Sp} {E : XK} {CX : CXT}
theorem op_ibinI {op : Operator} {cd : ClassData} (hc : clsIn X.K C = some cd) (hm : cd.mro = [.ref C, .type "object"]) (h1 : findIn X.K (.ref C) (dunderI op.info.2) = some none) (h2 : findIn X.K (.type "object") (dunderI op.info.2) = some none)
    (hs : findIn X.K (.ref C) (PySem.dunder op.info.2) = some (some (.ref g))) (hf : isFn X.K (.ref g) = true) (F : FnR X.prog X.w X.K X.mg X.base CX n g sp) (hr : Room n X.A) (hx : Passes CX X E) : InOp X op (rBinI C sp E) := by
  intro pins s σ H x y v u Q I rx ry h
  obtain ⟨a, dx, fs, b, dy, gs, rfl, rfl, ha, hb, q⟩ := h
  cases (show v = Value.ref a from rx)
  cases (show u = Value.ref b from ry)
  obtain ⟨od, J⟩ := ins_inst I ha
  obtain ⟨od', J'⟩ := ins_inst I hb
  refine inplace_own I.kIn J J'.type hc hm h1 h2 hs hf ?_
  refine wpAny_mono (wpAny_call (run_fnR (us := [.ref a, .ref b]) (vs := [.ref a, .ref b]) F hr hx I (.cons rfl (.cons rfl .nil)) q)) (fun w s' z => ?_) fun _ _ x => x
  obtain ⟨z', H', I', rz, qz⟩ := z
  exact cmpback rz ⟨z', H', I', rz, qz⟩
/-- x != y, both of the class at C with an own «equal» alone -/
def rNeI (C : Addr) (sp : Sp) (E : XK) : R2 := fun x y H Q => ∃ a dx fs b dy gs, x = .ref a ∧ y = .ref b ∧ H a = some (.ins C dx fs) ∧ H b = some (.ins C dy gs) ∧ sp [x, y] H (fun z H' => ∃ v, z = .bl v ∧ Q (.bl (!v)) H') E
theorem op_neI (hm : mroIn X.K C (.type "object") = some true) (hne : findIn X.K (.ref C) "__ne__" = some (some (.builtin "object.__ne__"))) (hs : findIn X.K (.ref C) "__eq__" = some (some (.ref g))) (hf : isFn X.K (.ref g) = true)
    (F : FnR X.prog X.w X.K X.mg X.base CX n g sp) (hr : Room (n + 1) X.A) (hx : Passes CX X E) : OpR X (compareOp .NotEq) (rNeI C sp E) := by
  intro pins s σ H x y v u Q I rx ry h
  obtain ⟨a, dx, fs, b, dy, gs, rfl, rfl, ha, hb, q⟩ := h
  cases (show v = Value.ref a from rx)
  cases (show u = Value.ref b from ry)
  obtain ⟨od, J⟩ := ins_inst I ha
  obtain ⟨od', J'⟩ := ins_inst I hb
  refine rc_ne_own (tb := .ref C) hr.units0 hr.in1.units0 I.kIn J J'.type (by unfold notFirst; simp) hm hne hs hf ?_
  refine wpAny_mono (wpAny_call (run_at (us := [.ref a, .ref b]) (ws := [.ref a, .ref b]) F hr.in1 I.env0.in1 hx I (.cons rfl (.cons rfl .nil)) q)) (fun w s' z => ?_) fun _ _ x => x
  obtain ⟨z', H', I', rz, b', eb, qz⟩ := z
  subst eb
  cases (show w = Value.bool b' from rz)
  exact ⟨b', rfl, .bl (!b'), H', I', rfl, qz⟩
end
end FR
set_option Elab.async false
set_option linter.all false
set_option maxRecDepth 100000
/-! the keys of a dict of the module, walked -/
namespace FR
open PySem PySem.Spec PyProof.Rows L2 TL
/-- at d: a dict of the module whose keys are the texts ks -/
structure WDict (K : PySem.W.Frag) (d : Addr) (ks : List Str) : Prop where
  ex : ∃ (o : Obj) (es : Array DictEntry) (ep : Nat), K.lookup d = some o ∧ o.ExactDict ∧ o.data = .dict es ep ∧ es.size = ks.length ∧ ∀ (i : Nat) (k : Str), ks[i]? = some k → ∃ (en : DictEntry) (t : Tok), es[i]? = some en ∧ en.key = Value.str k t
  low : (d == sysModules) = false
/-- its keys, in their order -/
def ItW (ks : List Str) : It := ⟨fun i H => i < ks.length, fun i H x H' => H' = H ∧ ∃ k, ks[i]? = some k ∧ x = .str k, fun i H => ks.length ≤ i⟩
section
variable {P : Program} {w : World} {K : PySem.W.Frag} {tg : Expr} {d : Addr} {o : Obj} {es : Array DictEntry} {ep : Nat} {ks : List Str}
theorem turn_keysW (it : Addr) (hl : K.lookup d = some o) (hod : o.data = .dict es ep) (hsz : es.size = ks.length) (ent : ∀ (i : Nat) (k : Str), ks[i]? = some k → ∃ (en : DictEntry) (t : Tok), es[i]? = some en ∧ en.key = Value.str k t) :
    Turn P w K tg (ItW ks) [it] it (fun i h => h.IsKeyIter it d i ks.length ep) where
  mem := by simp
  obj := fun i h st b hb => by
    have e : b = it := by simpa using hb
    subst e
    obtain ⟨oi, e, c, dd⟩ := st
    exact ⟨oi, e, fun v z => by rw [dd] at z; cases z⟩
  keep := fun i h h' st k => st.at fun oi e => k it (by simp) oi e
  item := by
    intro X hP hw hK hc i pins s σ H E I hf st hi
    subst hP hw hK
    obtain ⟨f0, f1, f2, f3, f4, f5⟩ := hf it (by simp)
    obtain ⟨k, hk⟩ : ∃ k, ks[i]? = some k := ⟨ks[i]'hi, List.getElem?_eq_getElem hi⟩
    obtain ⟨en, t, hen, hkey⟩ := ent i k hk
    refine next_key_item st (I.kIn _ _ hl) hod hsz hen fun h' st' sb => ?_
    have I1 : Inv X pins σ H { s with heap := h' } := I.turned (t' := s.toks) (fun b ob hb e => (sb.2 b hb).trans e) f0 f1 f3 f4 f5
    obtain ⟨oi, e, c, dd⟩ := id st'
    exact ⟨en.key, rfl, go_of (s := { s with heap := h' }) e c dd (by decide) ⟨.str k, H, I1, by rw [hkey]; exact ⟨t, rfl⟩, ⟨rfl, k, hk, rfl⟩, st', fun b hb => (hf b hb).1⟩⟩
  done := by
    intro X hP hw hK hc i pins s σ H E I hf st hi
    subst hP hw hK
    obtain ⟨f0, f1, f2, f3, f4, f5⟩ := hf it (by simp)
    exact next_key_end (I.ok.hd hc) st (I.kIn _ _ hl) hod hsz hi fun h' eb => ⟨rfl, I.turned (t' := s.toks) (fun b ob hb e => eb b ob hb e) f0 f1 f3 f4 f5⟩
  self := fun A i s Q E st h => wpAny_pyIter_keyiter st h
end
/-- a walk over e, which is that dict -/
def iKeysW (td : TE) (d : Addr) (ks : List Str) : TI := fun σ H R => td σ H fun x H1 => x = .ref d ∧ R (ItW ks) H1
theorem pi_keysW {X : Cx} {tg e : Expr} {td : TE} {d : Addr} {ks : List Str} (D : WDict X.K d ks) (he : PE X e td) : PI X tg e (iKeysW td d ks) := by
  refine ⟨fun pins s σ H R I h => ?_⟩
  refine thn (he.run pins s σ H _ I h) fun u s1 ⟨x, H1, I1, rx, ex, q⟩ => ?_
  subst ex
  obtain rfl : u = Value.ref d := rx
  obtain ⟨o, es, ep, hl, hx, hdt, hsz, ent⟩ := D.ex
  refine iter_keys D.low (I1.kIn _ _ hl) hx hdt (pi_one (tk := s1.toks) I1 _ (turn_keysW _ hl hdt hsz ent) ⟨_, Heap.get?_push_size _ rfl, rfl, ?_⟩ q)
  rw [hsz] <;> rfl
theorem walk_keysW {ks : List Str} : Walk (ItW ks) ks.length (fun _ => True) (fun i H x H' => H' = H ∧ ∃ k, ks[i]? = some k ∧ x = .str k) :=
  ⟨fun _ _ hi _ => hi, fun _ _ => Nat.le_refl _, fun _ _ _ _ _ _ y => y⟩
end FR
set_option Elab.async false
set_option linter.all false
set_option maxRecDepth 100000
set_option maxHeartbeats 4000000
/-! set(x) of a text of unlike signs of seven bits; its len -/
namespace FR
open PySem PySem.Spec PyProof.Rows PySem.Froz
section
variable {P : Program} {w : World} {A : Around} {E : Value → Shared → Prop} {s : Shared}
theorem run_ok : ∀ (cs : List Nat) (tk : Tok) (D : SD) (l : List Str), TxOk P w D l → ∃ l', TxOk P w (runD w cs tk D) l' ∧ l'.length = l.length + cs.length
  | [], _, _, l, F => ⟨l, F, rfl⟩
  | c :: r, tk, D, l, F => by
    obtain ⟨l', F', e⟩ := run_ok r (tk + 2) _ (sing c :: l) (add_ok (k := sing c) tk F)
    exact ⟨l', F', by rw [e]; show l.length + 1 + r.length = l.length + (r.length + 1); omega⟩
theorem call_set_txt {x : Str} {u : Tok} {Q : Value → Shared → Prop} (hh : A.handled = none) (ha : x.cps.all (· < 128) = true) (hd : x.cps.toList.Nodup) (hb : x.cps.toList.length < scanBound)
    (h : ∀ (h' : Heap) (tk : Nat) (D : SD) (l : List Str), h'.get? s.heap.objs.size = some (sObj "set" D) → TxOk P w D l → l.length = x.cps.toList.length → (∀ b o, b < s.heap.objs.size → s.heap.get? b = some o → h'.get? b = some o) →
      Q (.ref s.heap.objs.size) { s with heap := h', toks := tk }) :
    wpAny (model P w) A (call (.type "set") [.str x u]) Q E s := by
  obtain ⟨c, tl, hmro⟩ := PySem.F.called_set.mro
  have hmade := PySem.F.called_set.made
  have hsub := PySem.F.called_set.sub
  refine wpAny_call (codeAny_of_tree ?_)
  show wpAny _ _ (callAny (.type "set") _) _ _ _
  refine wpAny_pure ⟨Code.quiet_builtin _ (by decide +kernel), codeAny_builtin PySem.F.entry_type_call ?_⟩
  rw [Around.under_plain (weight_type_call_type "set" [.str x u] []) rfl]
  have h1 := PySem.F.called_set.notType
  have h2 := PySem.F.called_set.canCreate
  have hct := PySem.F.typeCall_set_1 (.str x u)
  repeat (any_goals (first | assumption | wp_step))
  let S0 : Bool → Obj := fun led => { cls := .type "set", dict := none, data := .set #[] 0 (.fresh 0 0 led) }
  refine codeAny_mono (code_set_new_1 (.str x u) (E := E) (Q₁ := fun obj s1 => ∃ led : Bool, obj = .ref s.heap.objs.size ∧ s1 = { s with heap := s.heap.push (S0 led) }) fun led => ⟨led, rfl, rfl⟩) fun r s1 hr => ?_
  match r, hr with
  | .error e, hr => exact hr
  | .ok (.ret obj), hr =>
    obtain ⟨led, rfl, rfl⟩ := hr
    have hS : (s.heap.push (S0 led)).get? s.heap.objs.size = some (S0 led) := Heap.get?_push_size _ rfl
    have hT : Shared.TypeIs { s with heap := s.heap.push (S0 led) } (.ref s.heap.objs.size) "set" := ⟨_, hS, rfl⟩
    have hli := PySem.F.called_set.init.lookup
    have hbi := PySem.F.called_set.init.bind (.ref s.heap.objs.size)
    repeat (any_goals (first | assumption | wp_step))
    refine codeAny_mono (codeAny_call_builtin (R := wants (fun r s2 => r = .none ∧ ∃ (h' : Heap) (tk : Nat) (D : SD) (l : List Str), s2 = { s with heap := h', toks := tk } ∧ h'.get? s.heap.objs.size = some (sObj "set" D) ∧ TxOk P w D l ∧ l.length = x.cps.toList.length ∧
      (∀ b o, b < s.heap.objs.size → s.heap.get? b = some o → h'.get? b = some o)) E) PySem.F.called_set.init.plain PySem.F.entry_set_init (check_set_init_1 hT ?_)) fun r2 s2 hr2 => ?_
    · have hs1 := PySem.F.sub_str_set
      have hs2 := PySem.F.sub_str_frozenset
      have hne : (Value.type "str" == Value.type "dict") = false := by decide
      unfold Builtin.«set.__init__» noKeywords Builtin.Frozenset.updateFrom
      generalize hPI : pyIter = PI
      wp_walk
      subst hPI
      refine wpAny_pyIter_ascii ha ?_
      refine wpAny_bind (wpAny_runValue ?_)
      have hsz : (s.heap.push (S0 led)).objs.size = s.heap.objs.size + 1 := Heap.size_push ..
      have hne2 : s.heap.objs.size ≠ (s.heap.push (S0 led)).objs.size := by omega
      have F0 : TxOk P w (#[], 0, .fresh 0 0 led) [] := TxOk.nil (by rfl)
      obtain ⟨l, Fl, el⟩ := run_ok x.cps.toList s.toks (#[], 0, .fresh 0 0 led) [] F0
      refine code_update (T := "set") (x := x) (u := u) (P := P) (w := w) hne2 (by simp [hh]) x.cps.toList 0 (#[], 0, .fresh 0 0 led) [] _ rfl (Heap.get?_push_of_some _ hS) (Heap.get?_push_size _ rfl) F0 (by simp) hd (by simpa using hb) ?_
      show wpAny _ _ (pure ()) _ _ _
      refine wpAny_pure ?_
      show wpAny _ _ (ret Value.none) _ _ _
      have hS2 : ∀ o : Obj, ((s.heap.push (S0 led)).push o).get? s.heap.objs.size = some (S0 led) := fun o => Heap.get?_push_of_some _ hS
      refine wpAny_pure ⟨rfl, _, _, _, l, rfl, ?_, Fl, by rw [el]; exact Nat.zero_add _, fun b o hb2 e => ?_⟩
      · exact Heap.get?_push_of_some _ (Heap.get?_push_of_some _ (Heap.get?_update_of_ne _ (Ne.symm hne2) (get_upd _ (hS2 _) rfl)))
      · have n1 : b ≠ s.heap.objs.size := Nat.ne_of_lt hb2
        have n2 : b ≠ (s.heap.push (S0 led)).objs.size := by omega
        exact Heap.get?_push_of_some _ (Heap.get?_push_of_some _ (Heap.get?_update_of_ne _ (Ne.symm n2) (Heap.get?_update_of_ne _ (Ne.symm n1) (Heap.get?_push_of_some _ (Heap.get?_push_of_some _ e)))))
    · match r2, hr2 with
      | .error e, hr2 => exact hr2
      | .ok (.ret r), hr2 =>
        obtain ⟨rfl, h', tk, D, l, rfl, g1, g2, g3, g4⟩ := hr2
        repeat (any_goals (first | assumption | wp_step))
        exact h _ _ _ _ g1 g2 g3 g4
      | .ok .next, hr2 => exact hr2.elim
      | .ok .brk, hr2 => exact hr2.elim
      | .ok .cont, hr2 => exact hr2.elim
  | .ok .next, hr => exact hr.elim
  | .ok .brk, hr => exact hr.elim
  | .ok .cont, hr => exact hr.elim
end
section
open L2
def tLenSetT (ta : TE) : TE := fun σ H Q => ta σ H fun x H1 => ∃ t : Str, x = .str t ∧ t.cps.all (· < 128) = true ∧ t.cps.toList.Nodup ∧ t.cps.toList.length ≤ 4000 ∧ Q (.int (t.length : Nat)) H1
/-- len(set(e)), e a text of unlike signs -/
theorem pe_lenSetT {X : Cx} {a : Expr} {ta : TE} {p p2 q pos : Pos} (hg : Gl X "len") (hm : X.mg "len" = none) (hg2 : Gl X "set") (hm2 : X.mg "set" = none) (ha : PE X a ta) (hc : X.calm = true := by rfl)
    (na : starEach [a] X.env = (false, eval a X.env) :: starEach [] X.env := by rfl) : PE X (.Call (.Name "len" p) [.Call (.Name "set" p2) [a] [] q] [] pos) (tLenSetT ta) := by
  refine ⟨fun pins s σ H Q I h => ?_⟩
  refine Call_ (ld_blt I hg hm boot_len ?_)
  refine PyProof.Rows.callWith_builtin1 (PyProof.Rows.args_cons ?_ rfl) rfl rfl
  refine Call_ (ld_blt I hg2 hm2 (show bootBuiltins ("set" : Str) = some (.type "set") by decide +kernel) ?_)
  refine PyProof.Rows.callWith_type1 (PyProof.Rows.args_cons (thn (ha.run pins s σ H _ I h) fun v s1 ⟨x, H1, I1, r1, q1⟩ => PyProof.Rows.args_nil ?_) na) na rfl
  obtain ⟨t, rfl, h1, h2, h3, q1⟩ := q1
  obtain ⟨tk0, rfl⟩ := r1
  refine call_set_txt (I1.ok.hd hc) h1 h2 (by unfold scanBound; omega) fun h' tk D l g1 F el hk => ?_
  refine PyProof.Rows.args_nil ?_
  have I2 : Inv X pins σ H1 { s1 with heap := h', toks := tk } := I1.kept fun b o e => hk b o (Heap.lt_size e) e
  have hn : D.1.size = t.length := by rw [F.sz, el]; rfl
  exact call_len_set (es := D.1) (ep := D.2.1) (t := D.2.2) g1 ⟨rfl, rfl, rfl⟩ rfl F.fit (by rw [hn]; show ((t.cps.size : Nat) : Int) < _; rw [← Array.length_toList]; omega) ⟨.int t.length, H1, I2.tok _, ⟨_, by rw [hn]⟩, q1⟩
end
end FR
set_option Elab.async false
set_option linter.all false
set_option maxRecDepth 100000
/-! whole numbers as tests; dicts of the module inside a comprehension -/
namespace FR
open PySem PySem.Spec PyProof.Rows L2
def tTruI (ta : TE) : TT := fun σ H Q => ta σ H fun x H' => ∃ i, x = .int i ∧ Q (i != 0) H'
theorem pt_truthI {X : Cx} {a : Expr} {ta : TE} (ha : PE X a ta) (he : ∀ whole, isTrue a X.env whole = (do let v ← whole; standAt a.pos; holding [v] (truthy v))) : PT X a (tTruI ta) := by
  refine ⟨fun pins s σ H Q I h => ?_⟩
  exact isTrue_plain (thn (ha.run pins s σ H _ I h) fun v s1 ⟨x, H1, I1, r1, i, ex, q1⟩ => tru_ok pins s1 σ H1 x v Q I1 r1 ⟨i != 0, by subst ex; rfl, q1⟩) (he _)
theorem ix_kdictK {X : Cx} {K : PySem.W.Frag} {w : World} (hk : X.K = K) (hw : X.w = w) : IxR X (rIxD K w) := by
  subst hk hw
  exact ix_kdict
def rInW (K : PySem.W.Frag) (d : Addr) : R2 := fun x y H Q => ∃ (z : Str) (r : Option Value), x = .str z ∧ y = .ref d ∧ PySem.W.nsIn K d z = some r ∧ Q (.bl r.isSome) H
theorem op_inW {X : Cx} {K : PySem.W.Frag} {w : World} {d : Addr} (hk : X.K = K) (hw : X.w = w) (D : ∃ es n, KDict K w d es n) : OpR X (compareOp .In) (rInW K d) := by
  subst hk hw
  obtain ⟨es, n, D⟩ := D
  exact op_in_kd D
end FR
set_option Elab.async false
set_option linter.all false
set_option maxRecDepth 100000
/-! a comprehension over the keys of a dict of the module -/
namespace FR
open PySem PySem.Spec PyProof.Rows L2
theorem lc_kw {g : TG} {tt : TT} {te : TE} {vs : List Nat} {σ : L2.St} {H1 : Hp} {D : Addr} {Qd : Hp → Prop} {ks : List Str} (Pv : List Str → Hp → Prop) (h0 : Pv [] (upd H1 D (.lst [])))
    (hs : ∀ pre k post H, ks = pre ++ k :: post → Pv pre H → g (.str k) (wipe σ vs) H fun σ2 H2 => wipe σ2 vs = wipe σ vs ∧ tt σ2 H2 fun b H3 =>
      if b = true then te σ2 H3 fun y H4 => ∃ acc, H4 D = some (.lst acc) ∧ acc.length < sizeLine ∧ Pv (pre ++ [k]) (upd H4 D (.lst (acc ++ [y]))) else Pv (pre ++ [k]) H3) (hd : ∀ H, Pv ks H → Qd H) :
    ∃ W : Nat → Nat → Hp → Prop, (∃ m, W 0 m (upd H1 D (.lst []))) ∧ ∀ i m H, W i m H →
      ((ItW ks).stop i H ∧ Qd H) ∨ ((ItW ks).go i H ∧ ∃ Nx : Hp → Prop, (∀ H', Nx H' → ∃ m', m' < m ∧ W (i + 1) m' H') ∧ ∀ x H', (ItW ks).yld i H x H' → g x (wipe σ vs) H' fun σ2 H2 => wipe σ2 vs = wipe σ vs ∧ tt σ2 H2 fun b H3 =>
        if b = true then te σ2 H3 fun y H4 => ∃ acc, H4 D = some (.lst acc) ∧ acc.length < sizeLine ∧ Nx (upd H4 D (.lst (acc ++ [y]))) else Nx H3) := by
  refine lc_it walk_keysW (fun i H => Pv (ks.take i) H) (by simpa using h0) (fun _ _ _ _ => True.intro) ?_ (fun H p => hd H (by rw [List.take_length] at p; exact p))
  rintro i x H H' hi p ⟨rfl, k, hk, rfl⟩
  have e : ks = ks.take i ++ k :: ks.drop (i + 1) := by
    have h2 : ks[i] = k := by rw [List.getElem?_eq_getElem hi] at hk; exact Option.some.inj hk
    rw [← h2, ← List.drop_eq_getElem_cons hi, List.take_append_drop]
  have e2 : ks.take (i + 1) = ks.take i ++ [k] := by rw [List.take_add_one, hk]; rfl
  rw [e2]
  exact hs _ k _ _ e p
end FR
set_option Elab.async false
set_option linter.all false
set_option maxRecDepth 100000
/-! list(x) of a text -/
namespace FR
open PySem PySem.Spec PyProof.Rows L2 TL
def rListT : List V → Hp → VK → Prop := fun xs H Q => ∃ x : Str, xs = [.str x] ∧ x.cps.size ≤ sizeLine ∧ NewS (.lst ((tl x).map fun c => .str ⟨#[c]⟩)) Q H
theorem call_listT {X : Cx} (hc : X.calm = true) : CallR X (.type "list") rListT := by
  intro pins s σ H xs us Q I r h
  obtain ⟨x, rfl, hz, q⟩ := h
  obtain ⟨u, rfl, t, rfl⟩ : ∃ u, us = [u] ∧ ∃ t, u = Value.str x t := by
    cases r with
    | cons a b => cases b; exact ⟨_, rfl, a⟩
  refine call_list_str (hn := hz) (I.ok.hd hc) x t fun h' tk acc' c' hkeep hS hacc => ?_
  refine ⟨.ref s.heap.objs.size, upd H s.heap.objs.size (.lst ((tl x).map fun c => .str ⟨#[c]⟩)), I.laid hkeep (Nat.le_refl _) (show ObjOk X.prog X.w _ _ _ (.lst ((tl x).map fun c => .str ⟨#[c]⟩)) from ⟨?_, acc'.toList, c', ?_, ?_⟩), rfl,
    q.to _ _ (I.hok.fresh (Nat.le_refl _)) I.big (keep_new (I.hok.fresh (Nat.le_refl _))) upd_same⟩
  · rw [List.length_map]
    simpa using hz
  · have el : acc'.toList.length = acc'.size := by simp
    refine vals_of_at (by rw [List.length_map, el, hacc.1]; simp) fun j y v h1 h2 => ?_
    obtain ⟨c, tk2, hj, rfl⟩ := hacc.2 j v (by rw [← Array.getElem?_toList]; exact h2)
    rw [List.getElem?_map, show (tl x)[j]? = some c by simpa using hj] at h1
    cases h1
    exact ⟨tk2, rfl⟩
  · rw [Array.toArray_toList]; exact hS
end FR
set_option Elab.async false
set_option linter.all false
set_option maxRecDepth 100000
/-! x = e.replace(old, new) in a def: it wants that something has been made before, as it has where a def runs -/
namespace FR
open PySem PySem.Spec PyProof.Rows L2 TL
theorem okT {P : Program} {w : World} {K : PySem.W.Frag} {mg : Str → Option Value} {base : Heap} {x qual : Str} {st : Stmt} {f : Addr} {fd : FuncData} {N ps : List Str} {k : Nat} {sp : Sp}
    (F : Fun K x qual st f fd) (S : FnScope N ps (defScope st)) (nc : ∀ y ∈ (defScope st).names, y.2 ≠ NameKind.cell) (hp : 1 ≤ ps.length) (len : ∀ vs H Q E, sp vs H Q E → vs.length = ps.length)
    (body : ∀ (cdv : Value) (A : Around) (outer : List Env) (s : Shared) (H : Hp) (vs : List V) (Q : VK) (E : XK), Room k (A.deeper (envOfC qual (defScope st) s.heap.objs.size f cdv)) → sp vs H Q E →
      ∃ t, PSsT (cxOf CX0 P w K mg base N qual (defScope st) f cdv A outer s H E) (defBody st) t ∧ t { nx := fun _ H' => Q .non H', rt := Q } (start N vs) H) :
    FnOk P w K mg base CX0 (k + 1) f fd ps sp := by
  obtain ⟨oc, od, kV, doc, pm, an, cdv, ct, osl, rfl, hl, hc⟩ := F.ex
  exact fn_ofT hl hc S nc hp len fun A outer s H vs Q E hr h => body cdv A outer s H vs Q E hr h
theorem pst_asg {X : Cx} {pos : Pos} {tg e : Expr} {te : TE} {g : TG} (he : PET X e te) (hg : PG X tg g) (h1 : swapsWithSole [tg] e pos.line X.env = pure false := by rfl)
    (h2 : swappedStores [tg] e X.env = pure none := by rfl) (h3 : (assignEach [tg] X.env).map (fun x => x.2) = [assign tg X.env] := by rfl) : PST X (.Assign [tg] e pos) (tAsg te g) := by
  intro pins s σ H D ht I h
  refine wpAny_Assign_stores (wpAny_mono (he pins s σ H _ ht I h) (fun v s1 z => ?_) fun _ _ z => z) h1 h2
  obtain ⟨x, H1, I1, r1, q⟩ := z
  rw [h3]
  unfold assignAll
  exact wpAny_mono (hg.run pins s1 σ H1 x v _ I1 r1 q) (fun u s2 z => z) fun _ _ z => z
/-- without its slashes -/
def noSl (s : Str) : Str := Txt.replace s "/" ""
theorem repl_filter (c : Nat) : ∀ l : List Nat, PySem.StrLaws.replL [c] [] l = l.filter (fun d => d != c)
  | [] => PySem.StrLaws.replL_nil
  | d :: r => by
    by_cases e : d = c
    · subst e
      rw [PySem.StrLaws.replL_hit (by simp) (by simp)]
      simpa using repl_filter d r
    · rw [PySem.StrLaws.replL_miss (by simp [e]), repl_filter c r]
      simp [e]
theorem tl_noSl (s : Str) : tl (noSl s) = (tl s).filter (fun d => d != 47) := by
  refine (PySem.StrLaws.replace_list (x := s) (y := "/") (z := "") (by decide +kernel)).trans ?_
  exact repl_filter 47 _
theorem noSl_asc {s : Str} (a : Asc s) : Asc (noSl s) := fun c hc => a c (by rw [tl_noSl] at hc; exact (List.mem_filter.mp hc).1)
end FR
set_option Elab.async false
set_option linter.all false
set_option maxRecDepth 100000
/-! the parts of a path, and what is left of it without its slashes -/
namespace FR
open PySem PySem.Spec PyProof.Rows L2 TL
theorem spl_all (c : Nat) : ∀ (l acc : List Nat), (spl [c] 0 acc l).flatten = acc ++ l.filter (fun d => d != c)
  | [], acc => by rw [spl_nil]; simp
  | x :: r, acc => by
    by_cases e : pre [c] (x :: r) = true
    · rw [spl_hit e]
      have : x = c := by rw [pre_one] at e; simpa using e
      subst this
      have := spl_all x r []
      simp only [List.flatten_cons]
      show acc ++ (spl [x] 0 [] r).flatten = _
      rw [this]
      simp
    · rw [spl_miss (by simpa using e), spl_all c r (acc ++ [x])]
      have : x ≠ c := by rw [pre_one] at e; simpa using e
      simp [this]
theorem path_parts {s : Str} (h : Txt.startswith s ⟨#[47]⟩ = true) : (((Txt.split s ⟨#[47]⟩).drop 1).map tl).flatten = tl (noSl s) ∧ (Txt.split s ⟨#[47]⟩).drop 1 ≠ [] := by
  rw [starts_one] at h
  have e1 : ((Txt.split s ⟨#[47]⟩).drop 1).map tl = (spl [47] 0 [] (tl s)).drop 1 := by rw [List.map_drop, split_tl _ (by decide)]
  cases e : tl s with
  | nil => rw [e] at h; cases h
  | cons c r =>
    rw [e] at h
    have : c = 47 := by simpa using h
    subst this
    have e2 : (spl [47] 0 [] (47 :: r)).drop 1 = spl [47] 0 [] r := by
      rw [spl_hit (by rw [pre_one]; rfl)]
      rfl
    rw [e, e2] at e1
    constructor
    · rw [e1, spl_all, tl_noSl, e]
      simp
    · intro h0
      rw [h0] at e1
      have : ∀ (l acc : List Nat), spl [47] 0 acc l ≠ [] := by
        intro l
        induction l with
        | nil => intro acc; rw [spl_nil]; simp
        | cons x r ih =>
          intro acc
          by_cases e : pre [47] (x :: r) = true
          · rw [spl_hit e]; simp
          · rw [spl_miss (by simpa using e)]; exact ih _
      exact this r [] e1.symm
theorem path_split {s : Str} (h : Txt.startswith s ⟨#[47]⟩ = true) (p : Nat → Bool) :
    ((Txt.split s ⟨#[47]⟩).drop 1).all (fun u => decide (u ≠ Str.ofString "" ∧ u.length ≤ 8) && (tl u).all p) =
      ((decide (noSl s ≠ Str.ofString "") && (tl (noSl s)).all p) && ((Txt.split s ⟨#[47]⟩).drop 1).all (fun u => decide (1 ≤ u.length ∧ u.length ≤ 8))) := by
  obtain ⟨hf, hn⟩ := path_parts h
  have ne : ∀ u : Str, u ≠ Str.ofString "" ↔ 1 ≤ u.length := fun u => by
    constructor
    · intro e
      rcases Nat.eq_zero_or_pos u.length with z | z
      · refine absurd (ext_tl ?_) e
        rw [len_tl] at z
        rw [List.length_eq_zero_iff.mp z]
        decide +kernel
      · exact z
    · intro e h
      rw [h] at e
      exact absurd e (by decide +kernel)
  rw [Bool.eq_iff_iff, ← hf, List.all_flatten, List.all_map]
  simp only [Bool.and_eq_true, List.all_eq_true, decide_eq_true_eq, Function.comp]
  generalize (Txt.split s ⟨#[47]⟩).drop 1 = ps at hf hn
  constructor
  · intro a
    refine ⟨⟨?_, fun u hu => (a u hu).2⟩, fun u hu => ⟨(ne u).mp (a u hu).1.1, (a u hu).1.2⟩⟩
    intro e
    cases ps with
    | nil => exact hn rfl
    | cons u r =>
      have hu := (ne u).mp (a u (by simp)).1.1
      rw [e] at hf
      have := congrArg List.length hf
      rw [List.map_cons, List.flatten_cons, List.length_append, ← len_tl] at this
      have z : (tl (Str.ofString "")).length = 0 := by decide +kernel
      omega
  · rintro ⟨⟨_, a⟩, b⟩ u hu
    exact ⟨⟨(ne u).mpr (b u hu).1, (b u hu).2⟩, a u hu⟩
end FR
set_option Elab.async false
set_option linter.all false
set_option maxRecDepth 100000
/-! the last slash of a path; a path without its slashes -/
namespace FR
open PySem PySem.Spec PyProof.Rows L2 TL
theorem rfind_one {x : Str} {c i : Nat} (h : (tl x)[i]? = some c) (h2 : ∀ k, i < k → (tl x)[k]? ≠ some c) : Txt.rfind x ⟨#[c]⟩ = (i : Int) := by
  unfold Txt.rfind
  rcases PySem.StrLaws.last_spec x ⟨#[c]⟩ with ⟨_, hn⟩ | ⟨j, e, hj, hm⟩
  · exact absurd ((PySem.StrLaws.subAt_one x c i).mpr h) (hn i)
  · rw [e]
    have hj' := (PySem.StrLaws.subAt_one x c j).mp hj
    rcases Nat.lt_trichotomy i j with l | l | l
    · exact absurd hj' (h2 j l)
    · rw [l]
    · exact absurd ((PySem.StrLaws.subAt_one x c i).mpr h) (hm i l)
theorem flat_app (ms : List Str) (n : Str) : flat (ms ++ [n]) = flat ms ++ 47 :: tl n := by simp [flat]
theorem rfind_path {ms : List Str} {n : Str} (hn : Nm n) : Txt.rfind (pathOf (ms ++ [n])) (Str.ofString "/") = ((flat ms).length : Int) ∧ cutS (pathOf (ms ++ [n])) none (some ((flat ms).length : Int)) = cat ms := by
  have e : tl (pathOf (ms ++ [n])) = flat ms ++ 47 :: tl n := by rw [pathOf_ne (by simp), tl_cat, flat_app]
  constructor
  · rw [slash]
    refine rfind_one (by rw [e, List.getElem?_append_right (Nat.le_refl _), Nat.sub_self]; rfl) fun k hk h => ?_
    rw [e, List.getElem?_append_right (by omega)] at h
    obtain ⟨j, hj⟩ : ∃ j, k - (flat ms).length = j + 1 := ⟨k - (flat ms).length - 1, by omega⟩
    rw [hj, List.getElem?_cons_succ] at h
    have := hn.lt (List.mem_of_getElem? h)
    omega
  · refine ext_tl ?_
    rw [tl_cutTo, e, tl_cat, List.take_left]
theorem low_of {s : Str} (h0 : tl s ≠ []) (h : ∀ c ∈ tl s, lc c = true) : Txt.isascii s = true ∧ Txt.isalpha s = true ∧ Txt.islower s = true := by
  have ha : Asc s := fun c hc => by have := of_decide_eq_true (h c hc); omega
  refine ⟨isascii_asc ha, ?_, ?_⟩
  · show (decide (s.length > 0) && s.cps.all Unicode.isAlpha) = true
    rw [all_tl, Bool.and_eq_true, decide_eq_true_eq, List.all_eq_true, len_tl]
    exact ⟨List.length_pos_iff.mpr h0, fun c hc => (lc_alpha ⟨c, ha c hc⟩ (h c hc)).1⟩
  · show (s.cps.any Unicode.isLower && !s.cps.any fun c => Unicode.isUpper c || Unicode.isTitle c) = true
    rw [any_tl, any_tl, Bool.and_eq_true, List.any_eq_true, Bool.not_eq_true', List.any_eq_false]
    refine ⟨?_, fun c hc => by have := (lc_alpha ⟨c, ha c hc⟩ (h c hc)).2.2; simpa using this⟩
    obtain ⟨c, hc⟩ := List.exists_mem_of_ne_nil _ h0
    exact ⟨c, hc, (lc_alpha ⟨c, ha c hc⟩ (h c hc)).2.1⟩
theorem path_noSl {ns : List Str} (h : Nms ns) (e : ns ≠ []) : Txt.isascii (noSl (pathOf ns)) = true ∧ Txt.isalpha (noSl (pathOf ns)) = true ∧ Txt.islower (noSl (pathOf ns)) = true := by
  have hm : ∀ c, c ∈ tl (noSl (pathOf ns)) ↔ ∃ s ∈ ns, c ∈ tl s := fun c => by
    rw [tl_noSl, pathOf_ne e, tl_cat, List.mem_filter]
    unfold flat
    rw [List.mem_flatten]
    constructor
    · rintro ⟨⟨l, hl, hc⟩, hne⟩
      obtain ⟨s, hs, rfl⟩ := List.mem_map.mp hl
      rcases List.mem_cons.mp hc with rfl | hc
      · simp at hne
      · exact ⟨s, hs, hc⟩
    · rintro ⟨s, hs, hc⟩
      refine ⟨⟨_, List.mem_map.mpr ⟨s, hs, rfl⟩, List.mem_cons_of_mem _ hc⟩, ?_⟩
      have := (h s hs).lt hc
      simp
      omega
  refine low_of (fun z => ?_) fun c hc => ?_
  · cases ns with
    | nil => exact e rfl
    | cons n r =>
      have h0 := (h n List.mem_cons_self).l0
      rw [len_tl] at h0
      obtain ⟨c, hc⟩ := List.exists_mem_of_length_pos h0
      have := (hm c).mpr ⟨n, List.mem_cons_self, hc⟩
      rw [z] at this
      cases this
  · obtain ⟨s, hs, hc⟩ := (hm c).mp hc
    exact (h s hs).lo c hc
end FR
set_option Elab.async false
set_option linter.all false
set_option maxRecDepth 100000
set_option maxHeartbeats 4000000
/-! bool(x), x == y and x != y of an own class, whatever stands on the right -/
namespace FR
open PySem PySem.Spec PyProof.Rows
theorem call_bool_tru {P : Program} {w : World} {A : Around} {E : Value → Shared → Prop} {s : Shared} {x : Value} {Q : Value → Shared → Prop} (h : wpAny (model P w) A.in1.in1 (truthy x) (fun b s' => Q (.bool b) s') E s) :
    wpAny (model P w) A (call (.type "bool") [x]) Q E s := by
  refine callType_newIn (S := fun A R s => wpAny (model P w) A.in1 (truthy x) (fun b s' => R (.ok (.ret (.bool b))) s') (fun e s' => R (.error e) s') s) PySem.F.called_bool (by decide +kernel) (PySem.F.typeCall_bool_1 x) (PySem.F.newCall_bool_1 x) (fun o => PySem.F.args_object_init_2 o x) PySem.F.entry_bool_new ?_ ?_
  · intro A R s h
    unfold Builtin.«bool.__new__»
    have hsm : someArgs "bool" 0 1 { pos := [x] } = pure [x] := by rfl
    have hty : isType (Value.type "bool") = pure true := by rfl
    have hsub := PySem.F.called_bool.sub
    show wpAny _ _ (do let __do_lift ← isType (Value.type "bool"); _) _ _ _
    rw [hty, pure_bind]
    simp only [hsub, hsm, pure_bind, Bool.not_true, Bool.false_eq_true, if_false]
    refine wpAny_bind (wpAny_mono h (fun b s1 hb => ?_) fun _ _ z => z)
    exact wpAny_pure hb
  · exact wpAny_mono h (fun b s' q => ⟨PySem.typeIs_bool _ _, q⟩) fun _ _ z => z
open L2
open SlX (cmpback run_at)
section
variable {X : Cx} {C g : Addr} {n : Nat} {sp : Sp} {E : XK} {CX : CXT}
/-- bool(x), x of the class at C with an own __bool__ -/
def rBoolI (C : Addr) (sp : Sp) (E : XK) : List V → Hp → VK → Prop := fun xs H Q => ∃ a dx fs, xs = [.ref a] ∧ H a = some (.ins C dx fs) ∧ sp xs H (fun z H' => ∃ b, z = .bl b ∧ Q (.bl b) H') E
theorem call_boolI (hs : PySem.W.findIn X.K (.ref C) "__bool__" = some (some (.ref g))) (hf : PySem.W.isFn X.K (.ref g) = true) (F : FnR X.prog X.w X.K X.mg X.base CX n g sp)
    (hr : Room (n + 2) X.A) (hx : Passes CX X E) : CallR X (.type "bool") (rBoolI C sp E) := by
  intro pins s σ H xs us Q I r h
  obtain ⟨a, dx, fs, rfl, ha, q⟩ := h
  obtain ⟨u, rfl, ru⟩ := r.one
  cases (show u = Value.ref a from ru)
  obtain ⟨od, J⟩ := ins_inst I ha
  obtain ⟨m, hF⟩ := I.fr
  have hr2 : Room n X.A.in1.in1 := (show Room (n + 1) X.A.in1 from Room.in1 hr).in1
  refine call_bool_tru (PySem.W.truthy_K hF I.ok.mod.kin J hs hf (wpAny_mono (wpAny_call (run_at (us := [.ref a]) (ws := [.ref a]) F hr2 I.env0.in1.in1 hx I (.cons rfl .nil) q)) (fun w s' z => ?_) fun _ _ x => x))
  obtain ⟨z', H', I', rz, b, eb, qz⟩ := z
  subst eb
  cases (show w = Value.bool b from rz)
  exact ⟨.bl b, H', I', rfl, qz⟩
/-- not x, as a value -/
def rNotR (r : V → Hp → (Bool → Hp → Prop) → Prop) : V → Hp → VK → Prop := fun x H Q => r x H fun b H' => Q (.bl (!b)) H'
theorem un_not {r : V → Hp → (Bool → Hp → Prop) → Prop} (h : TruR X r) : UnR X (unaryOp .Not) (rNotR r) := by
  intro pins s σ H x v Q I rx q
  unfold unaryOp
  refine wpAny_holding ?_
  show wpAny _ _ (do let b ← truthy v; pure (Value.bool !b)) _ _ _
  refine wpAny_bind (wpAny_mono (h pins s σ H x v _ I rx q) (fun b s' z => ?_) fun _ _ z => z)
  obtain ⟨H', I', q'⟩ := z
  exact wpAny_pure ⟨.bl (!b), H', I', rfl, q'⟩
/-- what stands on the right of a comparison: one of the class, a text, a whole number -/
inductive Right (K : PySem.W.Frag) (H : Hp) (C : Addr) : V → Prop
  | own {b dy : Addr} {gs : List (Str × V)} : H b = some (.ins C dy gs) → Right K H C (.ref b)
  | str (t : Str) : PySem.W.notFirst K C (.type "str") = true → Right K H C (.str t)
  | int (i : Int) : PySem.W.notFirst K C (.type "int") = true → Right K H C (.int i)
theorem right_looks {pins : List (Addr × Obj)} {σ : L2.St} {H : Hp} {s : Shared} {y : V} {u : Value} (I : Inv X pins σ H s) (r : RelV y u) (h : Right X.K H C y) : ∃ tb, PySem.W.Looks (model X.prog X.w) s.heap (typeOf u) tb ∧ PySem.W.notFirst X.K C tb = true := by
  cases h with
  | own e =>
    cases (show u = _ from r)
    obtain ⟨od, J⟩ := ins_inst I e
    exact ⟨_, J.type, by unfold PySem.W.notFirst; simp⟩
  | str t e =>
    obtain ⟨tk, rfl⟩ := (show ∃ tk, u = Value.str t tk from r)
    exact ⟨_, fun A Q E s' _ q => by show wpAny _ _ (pure (Value.type "str")) _ _ _; exact wpAny_pure q, e⟩
  | int i e =>
    obtain ⟨tk, rfl⟩ := (show ∃ tk, u = Value.int i tk from r)
    exact ⟨_, fun A Q E s' _ q => by show wpAny _ _ (pure (Value.type "int")) _ _ _; exact wpAny_pure q, e⟩
def rCmpA (K : PySem.W.Frag) (C : Addr) (sp : Sp) (E : XK) : R2 := fun x y H Q => ∃ a dx fs, x = .ref a ∧ H a = some (.ins C dx fs) ∧ Right K H C y ∧ sp [x, y] H Q E
theorem op_cmpA {op : CmpOp} (hop : ∀ a b, compareOp op a b = richCompare op a b) (hs : PySem.W.findIn X.K (.ref C) (cmpInfo op).2.1 = some (some (.ref g))) (hf : PySem.W.isFn X.K (.ref g) = true) (F : FnR X.prog X.w X.K X.mg X.base CX n g sp)
    (hr : Room n X.A) (hx : Passes CX X E) : OpR X (compareOp op) (rCmpA X.K C sp E) := by
  intro pins s σ H x y v u Q I rx ry h
  obtain ⟨a, dx, fs, rfl, ha, hy, q⟩ := h
  cases (show v = Value.ref a from rx)
  obtain ⟨od, J⟩ := ins_inst I ha
  obtain ⟨tb, hl, hn⟩ := right_looks I ry hy
  obtain ⟨m, hF⟩ := I.fr
  rw [hop]
  refine PySem.W.cmp_K (op := op) (tb := tb) hr.units0 hF I.ok.mod.kin J hl hn hs hf ?_
  refine wpAny_mono (wpAny_call (run_fnR (us := [.ref a, u]) (vs := [.ref a, y]) F hr hx I (.cons rfl (.cons ry .nil)) q)) (fun w s' z => ?_) fun _ _ x => x
  obtain ⟨z', H', I', rz, qz⟩ := z
  exact cmpback rz ⟨z', H', I', rz, qz⟩
def rNeA (K : PySem.W.Frag) (C : Addr) (sp : Sp) (E : XK) : R2 := fun x y H Q => ∃ a dx fs, x = .ref a ∧ H a = some (.ins C dx fs) ∧ Right K H C y ∧ sp [x, y] H (fun z H' => ∃ v, z = .bl v ∧ Q (.bl (!v)) H') E
theorem op_neA (hm : PySem.W.mroIn X.K C (.type "object") = some true) (hne : PySem.W.findIn X.K (.ref C) "__ne__" = some (some (.builtin "object.__ne__"))) (hs : PySem.W.findIn X.K (.ref C) "__eq__" = some (some (.ref g))) (hf : PySem.W.isFn X.K (.ref g) = true)
    (F : FnR X.prog X.w X.K X.mg X.base CX n g sp) (hr : Room (n + 1) X.A) (hx : Passes CX X E) : OpR X (compareOp .NotEq) (rNeA X.K C sp E) := by
  intro pins s σ H x y v u Q I rx ry h
  obtain ⟨a, dx, fs, rfl, ha, hy, q⟩ := h
  cases (show v = Value.ref a from rx)
  obtain ⟨od, J⟩ := ins_inst I ha
  obtain ⟨tb, hl, hn⟩ := right_looks I ry hy
  refine rc_ne_own (tb := tb) hr.units0 hr.in1.units0 I.kIn J hl hn hm hne hs hf ?_
  refine wpAny_mono (wpAny_call (run_at (us := [.ref a, u]) (ws := [.ref a, y]) F hr.in1 I.env0.in1 hx I (.cons rfl (.cons ry .nil)) q)) (fun w s' z => ?_) fun _ _ x => x
  obtain ⟨z', H', I', rz, b', eb, qz⟩ := z
  subst eb
  cases (show w = Value.bool b' from rz)
  exact ⟨b', rfl, .bl (!b'), H', I', rfl, qz⟩
end
/-- isinstance(x, C): x one of the class, or of another kind -/
def rIsA (K : PySem.W.Frag) (C : Addr) : List V → Hp → VK → Prop := fun xs H Q => (∃ a dx fs, xs = [.ref a, .ref C] ∧ H a = some (.ins C dx fs) ∧ Q (.bl true) H) ∨ rIsi K xs H Q
theorem call_isA {X : Cx} {C : Addr} (h : C8.InsC X.K C) : CallR X (.builtin "isinstance") (rIsA X.K C) := by
  intro pins s σ H xs us Q I r q
  rcases q with q | q
  · exact C8.call_isC h pins s σ H xs us Q I r q
  · exact call_isi pins s σ H xs us Q I r q
theorem op_in_seqK {X : Cx} {K : PySem.W.Frag} (h : X.K = K) : OpR X (compareOp .In) (rIn K false) := h ▸ op_in_seq
theorem kit_ofT {K : PySem.W.Frag} {n : String} {S : Addr} {b : Bool} (h2 : PySem.W.isClsIn K S = true) (h3 : PySem.W.typeIn K (.ref S) = some (.type "type")) (h4 : PySem.W.subIn K (.type n) (.ref S) = some b) : PySem.W.kitOne K (.type n) (.ref S) = some b := by
  have e2 : ((PySem.W.clsIn K S).isSome && PySem.W.typeIn K (.ref S) == some (.type "type")) = true := by
    rw [show (PySem.W.clsIn K S).isSome = true from h2, h3] <;> rfl
  unfold PySem.W.kitOne
  rw [if_neg (show ¬ (Value.type n == Value.ref S) = true by simp)]
  show (if ((PySem.W.clsIn K S).isSome && PySem.W.typeIn K (.ref S) == some (.type "type")) = true then PySem.W.subIn K (.type n) (.ref S) else none) = some b
  rw [if_pos e2]
  exact h4
end FR
set_option Elab.async false
set_option linter.all false
set_option maxRecDepth 100000
/-! cls(..) where cls is a local; classmethods -/
namespace FR
open PySem PySem.Spec PyProof.Rows L2 TL
section
variable {X : Cx} {CX : CXT} {k : Nat} {f C : Addr} {fd : FuncData} {ps : List Str} {sp : Sp} {dvs : List V} {ds : List Value} {E : XK} {x : Str} {p pos : Pos} {i : Nat}
def tMakeL (i : Nat) (C : Addr) (sp : Sp) (dvs : List V) (E : XK) (t : TA) : TE := fun σ H Q => σ[i]? = some (some (.ref C)) ∧ tMake C sp dvs E t σ H Q
theorem pe_makeL0 (hv : PE X (.Name x p) (tVar i)) (M : Mk X.K C f) (F : FnOk X.prog X.w X.K X.mg X.base CX k f fd ps sp) (hr : Room (k + 1) X.A) (hb : Binds X.K fd ps ds) (hd : Vals dvs ds) (hx : Passes CX X E) :
    PE X (.Call (.Name x p) [] [] pos) (tMakeL i C sp dvs E tNil) := by
  refine ⟨fun pins s σ H Q I h => ?_⟩
  obtain ⟨h1, h2⟩ := h
  refine wpAny_Call_Name_kw (thn (hv.run pins s σ H (fun v H' => v = .ref C ∧ tMake C sp dvs E tNil σ H' Q) I ⟨_, h1, rfl, h2⟩) fun u s1 hh => ?_)
  obtain ⟨v, H1, I1, r1, rfl, q⟩ := hh
  cases (show u = Value.ref C from r1)
  refine PySem.W.callWith_K0 I1.kIn M.kp ?_
  exact run_make (us := []) (vs := []) M F hr hb hd hx I1 .nil q
theorem pe_makeL {e : Expr} {es : List Expr} {t : TA} (hv : PE X (.Name x p) (tVar i)) (M : Mk X.K C f) (F : FnOk X.prog X.w X.K X.mg X.base CX k f fd ps sp) (hr : Room (k + 1) X.A) (hb : Binds X.K fd ps ds) (hd : Vals dvs ds) (hx : Passes CX X E) (ha : PA X (e :: es) t)
    (he : starEach (e :: es) X.env = (false, eval e X.env) :: starEach es X.env := by rfl) (hpl : (backTo pos (starEach es X.env)).any (·.1) = false := by rfl) :
    PE X (.Call (.Name x p) (e :: es) [] pos) (tMakeL i C sp dvs E t) := by
  refine ⟨fun pins s σ H Q I h => ?_⟩
  obtain ⟨h1, h2⟩ := h
  refine wpAny_Call_Name_kw (thn (hv.run pins s σ H (fun v H' => v = .ref C ∧ tMake C sp dvs E t σ H' Q) I ⟨_, h1, rfl, h2⟩) fun u s1 hh => ?_)
  obtain ⟨v, H1, I1, r1, rfl, q⟩ := hh
  cases (show u = Value.ref C from r1)
  refine PySem.W.callWith_K (h₀ := X.base) I1.ok.mod.kin M.kp (thn (ha.run pos pins s1 σ H1 _ I1 q) fun us s2 hz => ?_) he hpl
  obtain ⟨vs, H2, I2, r2, q2⟩ := hz
  exact ⟨I2.kIn, run_make (us := us) (vs := vs) M F hr hb hd hx I2 r2 q2⟩
end
end FR
set_option Elab.async false
set_option linter.all false
set_option maxRecDepth 100000
/-! x in t, t a tuple of data, x any datum -/
namespace FR
open PySem PySem.Spec PyProof.Rows L2 TL PySem.SeqAt
def rInTD (K : PySem.W.Frag) : R2 := fun x y H Q => ∃ (p : Addr) (d : PyData) (ds : List PyData), y = .ref p ∧ Dp K H x d ∧ Dp K H y (.tuple ds) ∧ SeqAt.shaped d = true ∧ PyData.canLayAll0 ds = true ∧ Q (.bl (ds.any fun z => z.eqv d)) H
theorem op_inTD {X : Cx} (hu : X.A.units + 65 < cLine) : OpR X (compareOp .In) (rInTD X.K) := by
  intro pins s σ H x y v u Q I rx ry h
  obtain ⟨p, d, ds, rfl, hd, hy, s1, c2, q⟩ := h
  cases (show u = Value.ref p from ry)
  obtain ⟨as, r1⟩ := Dp.reads I _ _ _ hd rx
  obtain ⟨bs, r2⟩ := Dp.reads I _ _ _ hy ry
  unfold SeqAt.shaped at s1
  rw [Bool.and_eq_true, decide_eq_true_eq] at s1
  cases r2 with
  | tuple e hc hdt hr =>
    refine in_tupleAt (fun z => (readOf s.heap z).eqv d) ⟨_, e, hc, _, hdt⟩ (items_eqAt hr r1 c2 s1.1 (by have := Nat.min_le_right (PyData.depthAll ds) d.depth; omega)) ⟨.bl (ds.any fun z => z.eqv d), H, I, ?_, q⟩
    show Value.bool _ = Value.bool _
    rw [any_by_data hr c2]
end FR
set_option Elab.async false
set_option linter.all false
set_option maxRecDepth 100000
/-! keyword calls of raising defs -/
namespace FR
open PySem PySem.Spec PyProof.Rows L2 TL
section
variable {X : Cx} {CX : CXT} {k n : Nat} {f : Addr} {fd : FuncData} {ps ks : List Str} {sp : Sp} {E : L2.St → XK} {x : Str} {p pos : Pos} {e : Expr} {es : List Expr} {kws : List Keyword} {t tk : TA} {g : List Value → List Value → List Value} {gV : List V → List V → List V}
theorem run_fnNS {pins : List (Addr × Obj)} {σ : L2.St} {H : Hp} {s : Shared} {Q : VK} {us ws : List Value} {vs zs : List V} (F : FnOk X.prog X.w X.K X.mg X.base CX k f fd ps sp) (hr : Room k X.A) (hb : KBn X.K fd ps n ks g gV) (hx : PassesAt CX X σ (E σ))
    (I : Inv X pins σ H s) (r : Vals vs us) (rz : Vals zs ws) (l1 : vs.length = n) (l2 : zs.length = ks.length) (h : sp (gV vs zs) H Q (E σ)) : wpAny (model X.prog X.w) X.A (call (.ref f) us (ks.zip ws)) (EP X pins σ Q) X.xe s := by
  have r2 := hb.rel r rz
  refine wpAny_call (codeAny_mono (F.run X.A X.stack s H ⟨us, ks.zip ws⟩ (g us ws) (gV vs zs) Q (E σ) hr I.env0 (hb.to s us ws I.kIn (r.length.symm.trans l1) (rz.length.symm.trans l2)) r2 h) fun r s' hq => ?_)
  cases r with
  | error e => exact hx pins H s e s' I hq
  | ok fl =>
    cases fl with
    | ret u => exact I.after hq
    | next => exact False.elim hq
    | brk => exact False.elim hq
    | cont => exact False.elim hq
def tCallNS (n m : Nat) (sp : Sp) (gV : List V → List V → List V) (E : L2.St → XK) (t tk : TA) : TE := fun σ H Q => t σ H fun vs H1 => tk σ H1 fun zs H2 => vs.length = n ∧ zs.length = m ∧ sp (gV vs zs) H2 Q (E σ)
theorem pe_callN0S (F : FnOk X.prog X.w X.K X.mg X.base CX k f fd ps sp) (hr : Room k X.A) (hg : Gl X x) (hm : X.mg x = some (.ref f)) (hk : PySem.W.keepIn X.K (.ref f) = true) (hb : KBn X.K fd ps 0 ks g gV) (hx : ∀ σ, PassesAt CX X σ (E σ)) (hkw : PK X kws tk)
    (hall : (backToKw pos (keywordEach kws X.env)).all (·.1.isSome) = true := by rfl) (hks : (backToKw pos (keywordEach kws X.env)).filterMap (·.1) = ks := by rfl) (hdb : (x == ("__debug__" : Str)) = false := by decide)
    (hpl : ((backTo pos (starEach [] X.env)).any (·.1) || (backToKw pos (keywordEach kws X.env)).any (·.1.isNone)) = false := by rfl) : PE X (.Call (.Name x p) [] kws pos) (tCallNS 0 ks.length sp gV E tNil tk) := ⟨fun pins s σ H Q I h => by
  refine wpAny_Call_Name_kw (ld_glob I hg hm (PySem.W.callWith_KW0 (h₀ := X.base) I.ok.mod.kin hk hall ?_ hpl) hdb)
  refine thn (hkw.run pos pins s σ H _ I h) fun ws s2 hz => ?_
  obtain ⟨zs, H2, I2, rz, l1, l2, q2⟩ := hz
  refine ⟨I2.kIn, ?_⟩
  rw [hks]
  exact run_fnNS (us := []) (vs := []) F hr hb (hx σ) I2 .nil rz rfl l2 q2⟩
end
end FR
set_option Elab.async false
set_option linter.all false
set_option maxRecDepth 100000
/-! t + u and t[lo:hi] of tuples, whichever object stands for them -/
namespace FR
open PySem PySem.Spec PyProof.Rows L2 TL
section
variable {X : Cx}
def rCatK : R2 := fun x y H Q => ∃ a b xs ys, x = .ref a ∧ y = .ref b ∧ H a = some (.tup xs) ∧ H b = some (.tup ys) ∧ xs.length + ys.length ≤ sizeLine ∧ ∀ p H', Keep [] H H' → H' p = some (.tup (xs ++ ys)) → Q (.ref p) H'
theorem op_catK : OpR X (binaryOp .Add) rCatK := fun pins s σ H x y v u Q I rx ry h => by
  obtain ⟨a, b, xs, ys, rfl, rfl, ha, hb, hz, q⟩ := h
  refine op_catA pins s σ H _ _ v u Q I rx ry ⟨a, b, xs, ys, rfl, rfl, .inl (.inl ha), .inl (.inl hb), hz, fun e => q b H Keep.refl (by rw [e]; exact hb), fun _ e => q a H Keep.refl (by rw [e, List.append_nil]; exact ha), fun _ _ p np => q p _ (keep_new np) upd_same⟩
def rSlK : V → Option Int → Option Int → Hp → VK → Prop := fun x lo hi H Q => ∃ a xs, x = .ref a ∧ H a = some (.tup xs) ∧ ∀ p H', Keep [] H H' → H' p = some (.tup (cutV xs lo hi)) → Q (.ref p) H'
theorem sl_tupK : SlR X rSlK := fun pins s σ H x v vl vu lo hi sl Q I rx hs pl pu h => by
  obtain ⟨a, xs, rfl, ha, q⟩ := h
  refine sl_tupA pins s σ H _ v vl vu lo hi sl Q I rx hs pl pu ⟨a, xs, rfl, .inl (.inl ha), fun e => q a H Keep.refl ?_, fun _ p np => q p _ (keep_new np) upd_same⟩
  rw [ha]
  unfold cutV
  rw [e.1, e.2, List.drop_zero, Nat.sub_zero, List.take_length]
end
theorem cutV_mem {xs : List V} {lo hi : Option Int} {x : V} (h : x ∈ cutV xs lo hi) : x ∈ xs := List.mem_of_mem_drop (List.mem_of_mem_take h)
end FR
set_option Elab.async false
set_option linter.all false
set_option maxRecDepth 100000
/-! blocks of a def that are shown by themselves -/
namespace FR
open PySem PySem.Spec PyProof.Rows L2 TL
/-- a block, by what it asks -/
theorem pss_b {X : Cx} {b : List Stmt} {t R : TS} (h : PSs X b t) (k : ∀ D σ H, R D σ H → t D σ H) : PSs X b R := ⟨fun pins s σ H D I q => h.run pins s σ H D I (k D σ H q)⟩
def bdF : Stmt → List Stmt
  | .For _ _ b _ _ => b
  | .While _ b _ _ => b
  | .If _ b _ _ => b
  | .Try b _ _ _ _ => b
  | _ => []
def bdE : Stmt → List Stmt
  | .For _ _ _ b _ => b
  | .While _ _ b _ => b
  | .If _ _ b _ => b
  | .Try _ _ b _ _ => b
  | _ => []
def nth (l : List Stmt) (i : Nat) : Stmt := l.getD i (.Pass ⟨0, 0, 0, 0⟩)
/-- repr, its text kept closed -/
theorem rep_to {K : PySem.W.Frag} {xs : List V} {H : Hp} {Q : VK} {p : Addr} {d : PyData} {tx : Str} (e : d.shown = tx) (h : Dp K H (.ref p) d ∧ d.showable = true ∧ d.hasDict = false ∧ d.depth ≤ 50 ∧ d.shown.length ≤ sizeLine) (hx : xs = [.ref p]) (q : Q (.str tx) H) : rReprD K xs H Q :=
  ⟨p, d, hx, h.1, h.2.1, h.2.2.1, h.2.2.2.1, h.2.2.2.2, by rw [e]; exact q⟩
theorem rep_ex {K : PySem.W.Frag} {H : Hp} {p : Addr} {d : PyData} (_ : Dp K H (.ref p) d ∧ d.showable = true ∧ d.hasDict = false ∧ d.depth ≤ 50 ∧ d.shown.length ≤ sizeLine) : ∃ t, d.shown = t := ⟨_, rfl⟩
theorem same_txt {t : Str} {A B : Prop} (b : B) : if (!decide (V.str t = V.str t)) = true then A else B := by
  rw [decide_eq_true rfl]
  exact b
end FR
set_option Elab.async false
set_option linter.all false
set_option maxRecDepth 100000
set_option maxHeartbeats 4000000
/-! set(x) of any text of seven bits; its len -/
namespace FR
open PySem PySem.Spec PyProof.Rows PySem.Froz
/-- the signs that were met, each once -/
def meet (l : List Str) (cs : List Nat) : List Str := cs.foldl (fun l c => if sing c ∈ l then l else sing c :: l) l
section
variable {P : Program} {w : World} {A : Around} {E : Value → Shared → Prop}
/-- a text that is there already -/
theorem add_there {s : Shared} {a : Addr} {T : String} {D : SD} {l : List Str} {k : Str} {u : Tok} {Q : Bool → Shared → Prop} (at_ : s.heap.get? a = some (sObj T D)) (F : TxOk P w D l) (m : k ∈ l) (room : l.length < scanBound) (q : Q false s) :
    wpAny (model P w) A (setAddHashed a (.str k u) (hashStr w k)) Q E s := by
  obtain ⟨es, ep, t⟩ := D
  have data : (sObj T (es, ep, t)).data = .set es ep t := rfl
  have small : es.size < scanBound := by
    have : es.size = l.length := F.sz
    omega
  have key : (strKind P w).is k (.str k u) = true := is_str k u
  obtain ⟨j, hj⟩ : ∃ j, List.findIdx? (fun e => (strKind P w).is k e.2) es.toList = some j := by
    cases z : List.findIdx? (fun e => (strKind P w).is k e.2) es.toList with
    | some j => exact ⟨j, rfl⟩
    | none =>
      obtain ⟨e, he, y⟩ := (F.mem k).mp m
      have := List.findIdx?_eq_none_iff.mp z e he
      rw [y] at this
      cases this
  unfold setAddHashed setAddHashedIn
  refine wpAny_holding (wpAny_bind (wpAny_setState_of at_ data F.fit ?_))
  dsimp only
  rw [byScan_of rfl small F.el, if_pos rfl]
  unfold setAddByScan
  refine wpAny_bind (wpAny_bind (wpAny_rule (wpAny_bind (wpAny_setScan_of (knd := strKind P w) (k := k) key at_ data F.fit F.el ?_))))
  rw [hj]
  exact wpAny_pure (wpAny_pure q)
/-- the rest of a text's signs into the set -/
theorem upd_signs {R : Result → Shared → Prop} {a it : Addr} (ne : a ≠ it) {T : String} {x : Str} {u : Tok} (hh : A.handled = none) : ∀ (cs : List Nat) (i : Nat) (D : SD) (l : List Str) (s : Shared), x.cps.toList.drop i = cs →
    s.heap.get? a = some (sObj T D) → s.heap.get? it = some (itObj x u i) → TxOk P w D l → l.length + cs.length < scanBound →
    (∀ (D' : SD) (h' : Heap) (tk : Nat), TxOk P w D' (meet l cs) → h'.get? a = some (sObj T D') → (∀ b o, b ≠ a → b ≠ it → s.heap.get? b = some o → h'.get? b = some o) → R (.ok (.ret .none)) { s with heap := h', toks := tk }) →
    codeAny (model P w) A (.builtin "set.update.loop" ⟨[.ref a, .ref it], []⟩) R s
  | [], i, D, l, s, dr, ha, hit, F, room, q => by
    refine codeAny_builtin PyProof.Rows.F.entry_set_update_loop ?_
    rw [Around.under_plainId PyProof.Rows.F.plain_set_update_loop _]
    show wpAny _ A.in1 (pyNext (.ref it) >>= fun _ => _) _ _ s
    refine wpAny_bind (end_x (u := u) (by exact hh) hit (at_end dr) ?_)
    show wpAny _ A.in1 (ret Value.none) _ _ _
    refine wpAny_pure (q D _ _ F (Heap.get?_push_of_some _ (Heap.get?_push_of_some _ (PySem.Heap.get?_update_of_ne _ (Ne.symm ne) ha))) fun b o _ n2 e => ?_)
    exact Heap.get?_push_of_some _ (Heap.get?_push_of_some _ (PySem.Heap.get?_update_of_ne _ (Ne.symm n2) e))
  | c :: r, i, D, l, s, dr, ha, hit, F, room, q => by
    obtain ⟨hx, dr2⟩ := at_of dr
    have room2 : l.length + (r.length + 1) < scanBound := room
    have move : ∀ b o, b ≠ it → s.heap.get? b = some o → (s.heap.update it (fun _ => itObj x u (i + 1))).get? b = some o := fun b o n e => PySem.Heap.get?_update_of_ne _ (Ne.symm n) e
    refine codeAny_builtin PyProof.Rows.F.entry_set_update_loop ?_
    rw [Around.under_plainId PyProof.Rows.F.plain_set_update_loop _]
    show wpAny _ A.in1 (pyNext (.ref it) >>= fun _ => _) _ _ s
    refine wpAny_bind (next_x (u := u) hit hx ?_)
    show wpAny _ A.in1 (holding [Value.str (sing c) s.toks] (setAdd a (.str (sing c) s.toks)) >>= fun _ => _) _ _ _
    refine wpAny_bind (wpAny_holding ?_)
    unfold setAdd
    refine wpAny_holding (wpAny_bind ((strKind P w).pyHash (k := sing c) (is_str _ _) ?_))
    have ha1 := move a _ ne ha
    have hit1 : (s.heap.update it (fun _ => itObj x u (i + 1))).get? it = some (itObj x u (i + 1)) := get_upd _ hit rfl
    by_cases m : sing c ∈ l
    · refine add_there (s := { s with heap := s.heap.update it (fun _ => itObj x u (i + 1)), toks := s.toks + 1 + 1 }) ha1 F m (by omega) ?_
      refine wpAny_pure ⟨plainId_quiet PyProof.Rows.F.plain_set_update_loop _, upd_signs ne hh r (i + 1) D l _ dr2 ha1 hit1 F (by omega) fun D' h' tk F' a' k' => ?_⟩
      exact q D' h' tk (by unfold meet at F' ⊢; rw [List.foldl_cons, if_pos m]; exact F') a' fun b o n1 n2 e => k' b o n1 n2 (move b o n2 e)
    · refine add_x (l := l) (D := D) (s := { s with heap := s.heap.update it (fun _ => itObj x u (i + 1)), toks := s.toks + 1 + 1 }) ha1 F m (by omega) ?_
      have ha2 : ((s.heap.update it (fun _ => itObj x u (i + 1))).update a (fun _ => sObj T (addTx (hashStr w (sing c)) (.str (sing c) s.toks) D))).get? a = some (sObj T (addTx (hashStr w (sing c)) (.str (sing c) s.toks) D)) := get_upd _ ha1 rfl
      have hit2 : ((s.heap.update it (fun _ => itObj x u (i + 1))).update a (fun _ => sObj T (addTx (hashStr w (sing c)) (.str (sing c) s.toks) D))).get? it = some (itObj x u (i + 1)) := PySem.Heap.get?_update_of_ne _ ne hit1
      refine wpAny_pure ⟨plainId_quiet PyProof.Rows.F.plain_set_update_loop _, upd_signs ne hh r (i + 1) _ (sing c :: l) _ dr2 ha2 hit2 (add_ok s.toks F) (by show l.length + 1 + r.length < scanBound; omega) fun D' h' tk F' a' k' => ?_⟩
      exact q D' h' tk (by unfold meet at F' ⊢; rw [List.foldl_cons, if_neg m]; exact F') a' fun b o n1 n2 e => k' b o n1 n2 (PySem.Heap.get?_update_of_ne _ (Ne.symm n1) (move b o n2 e))
theorem call_set_any {s : Shared} {x : Str} {u : Tok} {Q : Value → Shared → Prop} (hh : A.handled = none) (ha : x.cps.all (· < 128) = true) (hb : x.cps.toList.length < scanBound)
    (h : ∀ (h' : Heap) (tk : Nat) (D : SD), h'.get? s.heap.objs.size = some (sObj "set" D) → TxOk P w D (meet [] x.cps.toList) → (∀ b o, b < s.heap.objs.size → s.heap.get? b = some o → h'.get? b = some o) →
      Q (.ref s.heap.objs.size) { s with heap := h', toks := tk }) :
    wpAny (model P w) A (call (.type "set") [.str x u]) Q E s := by
  obtain ⟨c, tl, hmro⟩ := PySem.F.called_set.mro
  have hmade := PySem.F.called_set.made
  have hsub := PySem.F.called_set.sub
  refine wpAny_call (codeAny_of_tree ?_)
  show wpAny _ _ (callAny (.type "set") _) _ _ _
  refine wpAny_pure ⟨Code.quiet_builtin _ (by decide +kernel), codeAny_builtin PySem.F.entry_type_call ?_⟩
  rw [Around.under_plain (weight_type_call_type "set" [.str x u] []) rfl]
  have h1 := PySem.F.called_set.notType
  have h2 := PySem.F.called_set.canCreate
  have hct := PySem.F.typeCall_set_1 (.str x u)
  repeat (any_goals (first | assumption | wp_step))
  let S0 : Bool → Obj := fun led => { cls := .type "set", dict := none, data := .set #[] 0 (.fresh 0 0 led) }
  refine codeAny_mono (code_set_new_1 (.str x u) (E := E) (Q₁ := fun obj s1 => ∃ led : Bool, obj = .ref s.heap.objs.size ∧ s1 = { s with heap := s.heap.push (S0 led) }) fun led => ⟨led, rfl, rfl⟩) fun r s1 hr => ?_
  match r, hr with
  | .error e, hr => exact hr
  | .ok (.ret obj), hr =>
    obtain ⟨led, rfl, rfl⟩ := hr
    have hS : (s.heap.push (S0 led)).get? s.heap.objs.size = some (S0 led) := Heap.get?_push_size _ rfl
    have hT : Shared.TypeIs { s with heap := s.heap.push (S0 led) } (.ref s.heap.objs.size) "set" := ⟨_, hS, rfl⟩
    have hli := PySem.F.called_set.init.lookup
    have hbi := PySem.F.called_set.init.bind (.ref s.heap.objs.size)
    repeat (any_goals (first | assumption | wp_step))
    refine codeAny_mono (codeAny_call_builtin (R := wants (fun r s2 => r = .none ∧ ∃ (h' : Heap) (tk : Nat) (D : SD), s2 = { s with heap := h', toks := tk } ∧ h'.get? s.heap.objs.size = some (sObj "set" D) ∧ TxOk P w D (meet [] x.cps.toList) ∧
      (∀ b o, b < s.heap.objs.size → s.heap.get? b = some o → h'.get? b = some o)) E) PySem.F.called_set.init.plain PySem.F.entry_set_init (check_set_init_1 hT ?_)) fun r2 s2 hr2 => ?_
    · have hs1 := PySem.F.sub_str_set
      have hs2 := PySem.F.sub_str_frozenset
      have hne : (Value.type "str" == Value.type "dict") = false := by decide
      unfold Builtin.«set.__init__» noKeywords Builtin.Frozenset.updateFrom
      generalize hPI : pyIter = PI
      wp_walk
      subst hPI
      refine wpAny_pyIter_ascii ha ?_
      refine wpAny_bind (wpAny_runValue ?_)
      have hsz : (s.heap.push (S0 led)).objs.size = s.heap.objs.size + 1 := Heap.size_push ..
      have hne2 : s.heap.objs.size ≠ (s.heap.push (S0 led)).objs.size := by omega
      have F0 : TxOk P w (#[], 0, .fresh 0 0 led) [] := TxOk.nil (by rfl)
      refine upd_signs (T := "set") (x := x) (u := u) (P := P) (w := w) hne2 (by simp [hh]) x.cps.toList 0 (#[], 0, .fresh 0 0 led) [] _ rfl (Heap.get?_push_of_some _ hS) (Heap.get?_push_size _ rfl) F0 (by simpa using hb) fun D' h' tk F' a' k' => ?_
      show wpAny _ _ (pure ()) _ _ _
      refine wpAny_pure ?_
      show wpAny _ _ (ret Value.none) _ _ _
      refine wpAny_pure ⟨rfl, _, _, D', rfl, a', F', fun b o hb2 e => ?_⟩
      have n1 : b ≠ s.heap.objs.size := Nat.ne_of_lt hb2
      have n2 : b ≠ (s.heap.push (S0 led)).objs.size := by omega
      exact k' b o n1 n2 (Heap.get?_push_of_some _ (Heap.get?_push_of_some _ e))
    · match r2, hr2 with
      | .error e, hr2 => exact hr2
      | .ok (.ret r), hr2 =>
        obtain ⟨rfl, h', tk, D, rfl, g1, g2, g4⟩ := hr2
        repeat (any_goals (first | assumption | wp_step))
        exact h _ _ _ g1 g2 g4
      | .ok .next, hr2 => exact hr2.elim
      | .ok .brk, hr2 => exact hr2.elim
      | .ok .cont, hr2 => exact hr2.elim
  | .ok .next, hr => exact hr.elim
  | .ok .brk, hr => exact hr.elim
  | .ok .cont, hr => exact hr.elim
end
section
open L2
theorem meet_len : ∀ (cs : List Nat) (l : List Str), (meet l cs).length ≤ l.length + cs.length
  | [], l => Nat.le_refl _
  | c :: r, l => by
    unfold meet
    rw [List.foldl_cons]
    have h1 := meet_len r l
    have h2 := meet_len r (sing c :: l)
    unfold meet at h1 h2
    split
    · simp only [List.length_cons] at h1 ⊢; omega
    · simp only [List.length_cons] at h2 ⊢; omega
def tLenSetA (ta : TE) : TE := fun σ H Q => ta σ H fun x H1 => ∃ t : Str, x = .str t ∧ t.cps.all (· < 128) = true ∧ t.cps.toList.length ≤ 4000 ∧ Q (.int ((meet [] t.cps.toList).length : Nat)) H1
/-- len(set(e)), e a text -/
theorem pe_lenSetA {X : Cx} {a : Expr} {ta : TE} {p p2 q pos : Pos} (hg : Gl X "len") (hm : X.mg "len" = none) (hg2 : Gl X "set") (hm2 : X.mg "set" = none) (ha : PE X a ta) (hc : X.calm = true := by rfl)
    (na : starEach [a] X.env = (false, eval a X.env) :: starEach [] X.env := by rfl) : PE X (.Call (.Name "len" p) [.Call (.Name "set" p2) [a] [] q] [] pos) (tLenSetA ta) := by
  refine ⟨fun pins s σ H Q I h => ?_⟩
  refine Call_ (ld_blt I hg hm boot_len ?_)
  refine PyProof.Rows.callWith_builtin1 (PyProof.Rows.args_cons ?_ rfl) rfl rfl
  refine Call_ (ld_blt I hg2 hm2 (show bootBuiltins ("set" : Str) = some (.type "set") by decide +kernel) ?_)
  refine PyProof.Rows.callWith_type1 (PyProof.Rows.args_cons (thn (ha.run pins s σ H _ I h) fun v s1 ⟨x, H1, I1, r1, q1⟩ => PyProof.Rows.args_nil ?_) na) na rfl
  obtain ⟨t, rfl, h1, h3, q1⟩ := q1
  obtain ⟨tk0, rfl⟩ := r1
  refine call_set_any (I1.ok.hd hc) h1 (by unfold scanBound; omega) fun h' tk D g1 F hk => ?_
  refine PyProof.Rows.args_nil ?_
  have I2 : Inv X pins σ H1 { s1 with heap := h', toks := tk } := I1.kept fun b o e => hk b o (Heap.lt_size e) e
  have hn : D.1.size = (meet [] t.cps.toList).length := F.sz
  have hl := meet_len t.cps.toList []
  simp only [List.length_nil, Nat.zero_add] at hl
  exact call_len_set (es := D.1) (ep := D.2.1) (t := D.2.2) g1 ⟨rfl, rfl, rfl⟩ rfl F.fit (by rw [hn]; omega) ⟨.int (meet [] t.cps.toList).length, H1, I2.tok _, ⟨_, by rw [hn]⟩, q1⟩
end
end FR
set_option Elab.async false
set_option linter.all false
set_option maxRecDepth 100000
set_option maxHeartbeats 2000000
/-! a lambda handed to a def, where no repr is under way -/
namespace FR
open PySem PySem.Spec PyProof.Rows L2 TL LamX
section
variable {X : Cx} {σ : L2.St} {H : Hp} {s : Shared} {params : Arguments} {body : Expr} {scope : Scope} {f c' : Addr} {pm ctv : Value} {pins : List (Addr × Obj)}
/-- the lambda's own run, at the around Y -/
theorem lam_run {Y : Around} {outer : List Env} {s1 : Shared} {HZ : Hp} {E : XK} {Q : VK} {tb : TE} {k : Nat} (I : Inv X pins σ H s) (L : LamS X.env.scope scope)
    (hb : bindArgs (PySem.W.kla_fn "<lambda>" (X.env.qual ++ "<lambda>") params body scope (cloFrom X.env.cells scope.names []) pm (.ref c') ctv) ⟨[], []⟩ = pure [])
    (e0 : Env0 X.prog X.w X.K X.mg X.base Y outer s1 HZ) (nl : s1.heap.NoLimit) (hd : Y.handled = none) (hr : Room (k + 1) Y) (un : Un (frs X.stack) [] H HZ s.heap s1.heap)
    (at_ : s1.heap.get? f = some (PySem.W.kla_obj "<lambda>" (X.env.qual ++ "<lambda>") params body scope (cloFrom X.env.cells scope.names []) pm c' ctv)) (hc : HZ c' = some (CodeO c' (X.env.qual ++ "<lambda>")))
    (P : PE (lamCx X Y outer s1 HZ E scope f c') body tb) (ht : tb σ HZ Q) : codeAny (model X.prog X.w) Y (.call (.ref f) ⟨[], []⟩) (CR (L2.CX X.prog X.w) outer X.prog X.w HZ s1 Q E) s1 := by
  obtain ⟨oc, vs, t, g1, g2, g3⟩ := (e0.hok c' _ hc).1
  refine PySem.W.kla_callFunE hr.depth at_ rfl L.co L.gen rfl ⟨c', oc, vs, t, rfl, g1, g2, g3⟩ ?_
  rw [hb]
  refine wpAny_pure (wpAny_newFunctionEnv (fun y hy => (L.own y hy).2) (fun y hy => absurd hy (by simp)) (fun h1 ns same => ⟨nl.fresh _ same, ?_⟩) L.kind)
  have up : ∀ b o, s1.heap.get? b = some o → h1.get? b = some o := fun b o e => same.extBut b o (Nat.ne_of_lt (Heap.lt_size e)) (Heap.get?_push_of_some _ e)
  have J := lam_start2 (E := E) (f := f) (c' := c') (tk := s1.toks + ([] : List (Str × Value)).length) I L e0 hd un ns up
  show codeAny _ _ (.expr body (lamEnv X scope s1.heap.objs.size f c')) _ _
  refine PySem.W.kla_codeExpr (wpAny_mono (P.run [] _ _ HZ Q J ht) (fun v s2 z => ?_) fun _ _ z => z)
  obtain ⟨u, H2, J2, ru, qu⟩ := z
  exact ⟨u, H2, J2.os, J2.bare, J2.base, J2.hok, ru, qu⟩
/-- a() in the def that got the lambda -/
def tAct (f c' : Addr) (q : Str) (i : Nat) (tl : XK → Hp → VK → Prop) (W : WX) : TE := fun σZ HZ Q => σZ[i]? = some (some (.ref f)) ∧ HZ c' = some (CodeO c' q) ∧ tl (WE W σZ) HZ Q
end
/-- a def that is handed a lambda and calls it: TT is what it makes of the lambda's reading -/
def Gives (X : Cx) (N : List Str) (x : Str) (sc : Scope) (g : Addr) (cd : Value) (b : List Stmt) (a : Str) (q : Str) (TT : (XK → Hp → VK → Prop) → Hp → VK → Prop) : Prop :=
  ∀ (f c' : Addr) (s : Shared) (H : Hp) (Q : VK) (tl : XK → Hp → VK → Prop),
    (∀ (W : WX) (pn : List (Addr × Obj)) (xe : Value → Shared → Prop) (p1 p2 : Pos), Takes ((cxOf CX0 X.prog X.w X.K X.mg X.base N x sc g cd X.A X.stack s H fun _ _ _ => False).tr pn xe) W →
      PE ((cxOf CX0 X.prog X.w X.K X.mg X.base N x sc g cd X.A X.stack s H fun _ _ _ => False).tr pn xe) (.Call (.Name a p1) [] [] p2) (tAct f c' q 0 tl W)) →
    Room 1 (X.A.deeper (envOfC x sc s.heap.objs.size g cd)) → H c' = some (CodeO c' q) → TT tl H Q →
    ∃ t, PSs (cxOf CX0 X.prog X.w X.K X.mg X.base N x sc g cd X.A X.stack s H fun _ _ _ => False).nox b t ∧ t { nx := fun _ H' => Q .non H', rt := Q } (L2.start N [.ref f]) H
/-- x(lambda: body) -/
def tGive (T : List (Addr × Str)) (TT : (XK → Hp → VK → Prop) → Hp → VK → Prop) (t : XK → TE) : TE := fun σ H Q => Tabs T H ∧ ∀ H1, ExtN H H1 → Tabs T H1 → TT (fun E H' Q' => t E σ H' Q') H1 Q
section
variable {X : Cx}
theorem pe_give {T : List (Addr × Str)} {TT : (XK → Hp → VK → Prop) → Hp → VK → Prop} {x a : Str} {g c P : Addr} {k : Nat} {st : Stmt} {fd : FuncData} {N : List Str} {params : Arguments} {body : Expr} {scope : Scope} {t : XK → TE} {p lp pos : Pos}
    (hgd : X.A.guards = some []) (hr : Room (k + 2) X.A) (F : Fun X.K x x st g fd) (B : Binds X.K fd [a] []) (S : FnScope N [a] (defScope st)) (hN : N[0]? = some a) (hv : Vis (defScope st) a) (hg : Gl X x) (hm : X.mg x = some (.ref g)) (hk : PySem.W.keepIn X.K (.ref g) = true)
    (G : ∀ cd, Gives X N x (defScope st) g cd (defBody st) a (X.env.qual ++ "<lambda>") TT)
    (TB : TabB X.base X.mg c P) (hcode : X.env.code = .ref c) (hT : (P, X.env.qual ++ "<lambda>") ∈ T) (hu : ∀ p ∈ T, p.1 = P → p.2 = X.env.qual ++ "<lambda>") (L : LamS X.env.scope scope) (hdef : defaultsOf params X.env = ([], []))
    (hb : ∀ (q : Str) (cl : List (Str × Addr)) (pm cv ctv : Value), bindArgs (PySem.W.kla_fn "<lambda>" q params body scope cl pm cv ctv) ⟨[], []⟩ = pure [])
    (hbody : ∀ (Y : Around) (outer : List Env) (s : Shared) (H : Hp) (E : XK) (f c' : Addr), Y.guards = some [] → Room k (Y.deeper (lamEnv X scope s.heap.objs.size f c')) → PE (lamCx X Y outer s H E scope f c') body (t E))
    (hdb : (x == ("__debug__" : Str)) = false := by decide) (hda : (a == ("__debug__" : Str)) = false := by decide) (hca : (a == ("__classdict__" : Str)) = false := by decide) :
    PE X (.Call (.Name x p) [.Lambda params body scope lp] [] pos) (tGive T TT t) := by
  refine ⟨fun pins s σ H Q I ⟨ht, h⟩ => wpAny_Call_Name_kw (ld_glob I hg hm (PySem.W.callWith_K (h₀ := X.base) I.ok.mod.kin hk ?_ (by rfl) (by rfl)) hdb)⟩
  show wpAny _ _ (spliced ((false, eval (.Lambda params body scope lp) X.env) :: backTo pos (starEach [] X.env))) _ _ s
  refine Calls.spliced_cons (lam_make2 I TB hcode hT hu ht hdef (L.has I.ok) fun f c' pm ctv H1 s1 I1 eN T1 hf hfn hfr hco => Calls.spliced_nil ⟨I1.kIn, ?_⟩)
  obtain ⟨oc, od, kV, doc, pm', an, cdv, ct, osl, rfl, lk, hcd⟩ := F.ex
  have rc : codeAny (model X.prog X.w) X.A (.call (.ref g) ⟨[.ref f], []⟩) (CR CX0 X.stack X.prog X.w H1 s1 Q fun _ _ _ => False) s1 := by
    refine run_ofS (N := N) (ps := [a]) (us := [.ref f]) (vs := [.ref f]) lk hcd S hr I1.env0 (B s1 [.ref f] I1.kIn rfl) (.cons rfl .nil) rfl fun hr1 => ?_
    have hr0 : Room 1 (X.A.deeper (envOfC x (defScope st) s1.heap.objs.size g cdv)) := hr1.mono (by omega)
    have act : ∀ (W : WX) (pn : List (Addr × Obj)) (xe : Value → Shared → Prop) (p1 p2 : Pos), Takes ((cxOf CX0 X.prog X.w X.K X.mg X.base N x (defScope st) g cdv X.A X.stack s1 H1 fun _ _ _ => False).tr pn xe) W →
        PE ((cxOf CX0 X.prog X.w X.K X.mg X.base N x (defScope st) g cdv X.A X.stack s1 H1 fun _ _ _ => False).tr pn xe) (.Call (.Name a p1) [] [] p2) (tAct f c' (X.env.qual ++ "<lambda>") 0 (fun E H' Q' => t E σ H' Q') W) := by
      intro W pn xe p1 p2 tk
      refine ⟨fun pinsZ sZ σZ HZ QZ IZ hz => ?_⟩
      obtain ⟨z1, z2, z3⟩ := hz
      refine wpAny_Call_Name_kw (thn ((pe_var (pos := p1) (i := 0) hN hv hda hca).run pinsZ sZ σZ HZ (fun v H2 => v = .ref f ∧ H2 = HZ) IZ ⟨.ref f, z1, rfl, rfl⟩) fun u s2 ⟨v, H2, I2, r2, q2⟩ => ?_)
      obtain ⟨rfl, rfl⟩ := q2
      obtain rfl : u = Value.ref f := r2
      have stay := I2.base.keep f _ hf hfn hfr (fun z => nomatch (show f ∈ ([] : List Addr) from z))
      refine PySem.W.callWith_F0 ⟨_, _, _, _, stay⟩ ?_
      have run2 : codeAny (model X.prog X.w) (X.A.deeper (envOfC x (defScope st) s1.heap.objs.size g cdv)) (.call (.ref f) ⟨[], []⟩) (CR (L2.CX X.prog X.w) (envOfC x (defScope st) s1.heap.objs.size g cdv :: X.stack) X.prog X.w H2 s2 QZ (WE W σZ)) s2 :=
        lam_run (X := X) (k := k) (tb := t (WE W σZ)) I1 L (hb _ _ _ _ _) I2.env0 I2.nolimit hr1.hd hr1 I2.base stay z2 (hbody _ _ s2 H2 (WE W σZ) f c' hgd (hr1.deeper _)) z3
      refine wpAny_call (codeAny_mono run2 fun r s3 hq => ?_)
      cases r with
      | error e => exact passAt tk σZ pinsZ H2 s2 e s3 I2 hq
      | ok fl =>
        cases fl with
        | ret u => exact I2.after hq
        | next => exact False.elim hq
        | brk => exact False.elim hq
        | cont => exact False.elim hq
    obtain ⟨t', a1, a2⟩ := G cdv f c' s1 H1 Q (fun E H' Q' => t E σ H' Q') act hr0 hco (h H1 eN T1)
    exact ⟨t', a1.nox, a2⟩
  refine wpAny_call (codeAny_mono rc fun r s2 hq => ?_)
  cases r with
  | error e => exact (show False from hq).elim
  | ok fl =>
    cases fl with
    | ret u => exact I1.after hq
    | next => exact False.elim hq
    | brk => exact False.elim hq
    | cont => exact False.elim hq
end
end FR
set_option Elab.async false
set_option linter.all false
set_option maxRecDepth 100000
set_option maxHeartbeats 4000000
/-! own operators with anything on the right; repr of any datum; what a raising call lets out; keys of a dict of the module -/
namespace FR
open PySem PySem.Spec PyProof.Rows L2 TL
section
variable {X : Cx}
theorem tk0 {X : Cx} : Takes X (fun _ _ _ _ => False) := fun u s' h => by
  obtain ⟨_, _, _, _, _, _, _, _, _, _, _, _, _, _, _, _, z⟩ := h
  exact z.elim
/-- nothing is let out -/
theorem px0 : Passes (L2.CX X.prog X.w) X (fun _ _ _ => False) := passes_call tk0 fun _ _ _ _ h => h
/-- let out of the def itself -/
theorem pxE {E : XK} (hs : X.stack = X.env :: X.outer) (hf : X.env.frame = some X.env.locals) (hex : X.ex = []) {E1 : Value → Shared → Prop}
    (hx : X.xe = fun e s' => wpAny (model X.prog X.w) X.A (leaving X.env e) (fun _ s'' => L2.CX X.prog X.w X.outer X.H_0 X.s_0 E e s'') E1 s') : Passes (L2.CX X.prog X.w) X E := passes_call (takes_of hs hf hex hx) fun _ _ _ _ h => h
def known (T : String) (nm : String) : Bool := (fastLookup T (dunder nm)).isSome && (fastLookup T (dunderR nm)).isSome
theorem fills_any {T nm : String} (h : known T nm = true) : ∃ r z, fillsNumberSlot (.type T) nm = pure r ∧ typeLookup (.type T) (dunderR nm) = pure z := by
  unfold known at h
  rw [Bool.and_eq_true] at h
  obtain ⟨a, ha⟩ := Option.isSome_iff_exists.mp h.1
  obtain ⟨b, hb⟩ := Option.isSome_iff_exists.mp h.2
  have e1 : typeLookup (.type T) (dunder nm) = pure a := by rw [typeLookup_type, builtinLookup_eq_fast, ha]
  have e2 : typeLookup (.type T) (dunderR nm) = pure b := by rw [typeLookup_type, builtinLookup_eq_fast, hb]
  unfold fillsNumberSlot
  simp only [e1, e2, pure_bind]
  exact ⟨_, _, rfl, rfl⟩
variable {C g : Addr} {n : Nat} {sp : Sp} {E : XK} {CX : CXT}
/-- x op y, x of the class at C; its def lets something out -/
def rBinX (K : PySem.W.Frag) (C : Addr) (nm : String) (sp : Sp) (E : XK) : R2 := fun x y H Q => ∃ a dx fs, x = .ref a ∧ H a = some (.ins C dx fs) ∧
  ((∃ b dy gs, y = .ref b ∧ H b = some (.ins C dy gs) ∧ sp [x, y] H Q E) ∨ ∃ T, TyX K H y (.type T) ∧ known T nm = true ∧ PySem.W.subIn K (.type T) (.ref C) = some false ∧ sp [x, y] H (fun _ _ => False) E)
theorem op_binX {op : Operator} (hc : PySem.W.selfFirst X.K C = true) (hs : PySem.W.findIn X.K (.ref C) (PySem.dunder op.info.2) = some (some (.ref g))) (hR : PySem.W.findIn X.K (.ref C) (PySem.dunderR op.info.2) = some none) (hf : PySem.W.isFn X.K (.ref g) = true)
    (F : FnR X.prog X.w X.K X.mg X.base CX n g sp) (hr : Room n X.A) (hx : Passes CX X E) : OpR X (binaryOp op) (rBinX X.K C op.info.2 sp E) := by
  intro pins s σ H x y v u Q I rx ry h
  obtain ⟨a, dx, fs, rfl, ha, ⟨b, dy, gs, rfl, hb, q⟩ | ⟨T, ty, kn, sub, q⟩⟩ := h
  · exact op_binI hc hs hf F hr hx pins s σ H _ _ v u Q I rx ry ⟨a, dx, fs, b, dy, gs, rfl, rfl, ha, hb, q⟩
  cases (show v = Value.ref a from rx)
  obtain ⟨od, J⟩ := ins_inst I ha
  obtain ⟨Pk, kx, hP, _⟩ := L2.kit_of I ry ty
  have KI := I.kIn
  have look := kx.ty (model X.prog X.w) s.heap KI hP
  obtain ⟨cd, hcd, hm⟩ := PySem.W.any_some hc
  obtain ⟨rest, hm⟩ : ∃ rest, cd.mro = .ref C :: rest := by
    cases z : cd.mro with
    | nil => rw [z] at hm; cases hm
    | cons c r => rw [z, List.head?_cons] at hm; cases (beq_iff_eq.mp hm); exact ⟨r, rfl⟩
  obtain ⟨r, z0, hfill, hz0⟩ := fills_any kn
  have run : wpAny (model X.prog X.w) X.A (callSpecial? (.ref a) (PySem.dunder op.info.2) [u]) (fun _ _ => False) X.xe s := by
    refine PySem.W.special_fn KI J hs (beq_iff_eq.mp hf) (wpAny_mono (wpAny_call (run_fnR (us := [.ref a, u]) (vs := [.ref a, y]) F hr hx I (.cons rfl (.cons ry .nil)) q)) (fun w s' z => ?_) fun _ _ z => z)
    obtain ⟨_, _, _, _, z⟩ := z
    exact z
  have fin : ∀ {α : Type} (f : Option Value → Sem α) (Q' : α → Shared → Prop), wpAny (model X.prog X.w) X.A (tryMethod (.ref a) (PySem.dunder op.info.2) u >>= f) Q' X.xe s := fun f Q' => by
    refine wpAny_bind ?_
    unfold tryMethod
    exact wpAny_bind (wpAny_mono run (fun _ _ z => z.elim) fun _ _ z => z)
  unfold binaryOp
  refine wpAny_holding (wpAny_bind ?_)
  show wpAny _ _ (binaryOp1 op.info.2 (.ref a) u) _ _ _
  generalize op.info.2 = nm at *
  unfold binaryOp1
  refine wpAny_bind (J.type.here (wpAny_bind (look.here (wpAny_bind ((PySem.W.fills_K KI hcd hm hs).here ?_)))))
  have ne : (Value.ref C == Value.type T) = false := by simp
  simp only [ne, Bool.false_eq_true, if_false]
  rw [hfill]
  refine wpAny_bind (wpAny_pure ?_)
  cases r with
  | false =>
    simp only [Bool.and_false, Bool.false_eq_true, if_false, Bool.false_and, if_true, pure_bind]
    exact fin _ _
  | true =>
    simp only [Bool.and_self, Bool.not_false, if_true]
    refine wpAny_bind ((PySem.W.looks_subIn KI sub).here ?_)
    simp only [Bool.false_eq_true, if_false, Bool.not_false, Bool.and_self, if_true, pure_bind]
    refine wpAny_bind ?_
    unfold numberSlotInPython
    refine wpAny_bind ((PySem.W.looks_findIn KI hs).here ?_)
    refine wpAny_bind ?_
    refine wpAny_pure ?_
    refine wpAny_bind ((PySem.W.looks_findIn KI hR).here ?_)
    refine wpAny_bind (wpAny_pure ?_)
    simp only [Bool.or_false, if_true, Bool.true_or]
    refine wpAny_pure ?_
    simp only [if_true, pure_bind, Bool.not_false]
    rw [hz0]
    exact wpAny_bind (wpAny_pure (fin _ _))
/-- x op y (a comparison), x of the class at C, anything on the right -/
def rCmpX (K : PySem.W.Frag) (C : Addr) (sp : Sp) (E : XK) : R2 := fun x y H Q => ∃ a dx fs t, x = .ref a ∧ H a = some (.ins C dx fs) ∧ TyX K H y t ∧ PySem.W.notFirst K C t = true ∧ sp [x, y] H Q E
theorem op_cmpX {op : CmpOp} (hop : ∀ a b, compareOp op a b = richCompare op a b) (hs : PySem.W.findIn X.K (.ref C) (cmpInfo op).2.1 = some (some (.ref g))) (hf : PySem.W.isFn X.K (.ref g) = true) (F : FnR X.prog X.w X.K X.mg X.base CX n g sp)
    (hr : Room n X.A) (hx : Passes CX X E) : OpR X (compareOp op) (rCmpX X.K C sp E) := by
  intro pins s σ H x y v u Q I rx ry h
  obtain ⟨a, dx, fs, t, rfl, ha, ty, hn, q⟩ := h
  cases (show v = Value.ref a from rx)
  obtain ⟨od, J⟩ := ins_inst I ha
  obtain ⟨Pk, kx, hP, _⟩ := L2.kit_of I ry ty
  obtain ⟨m, hF⟩ := I.fr
  rw [hop]
  refine PySem.W.cmp_K (op := op) (tb := t) hr.units0 hF I.ok.mod.kin J (kx.ty _ _ I.kIn hP) hn hs hf ?_
  refine wpAny_mono (wpAny_call (run_fnR (us := [.ref a, u]) (vs := [.ref a, y]) F hr hx I (.cons rfl (.cons ry .nil)) q)) (fun w s' z => ?_) fun _ _ x => x
  obtain ⟨z', H', I', rz, qz⟩ := z
  exact SlX.cmpback rz ⟨z', H', I', rz, qz⟩
end
/-! ### repr -/
section
variable {X : Cx}
/-- repr of data, of a scalar too -/
def rReprS : List V → Hp → VK → Prop := fun xs H Q => rReprQ xs H Q ∨ (∃ i : Int, xs = [.int i] ∧ i.natAbs.log2 < 1920 ∧ Q (.str (PyData.shown (.int i))) H) ∨ (∃ b : Bool, xs = [.bl b] ∧ Q (.str (PyData.shown (.bool b))) H) ∨ (xs = [.non] ∧ Q (.str (PyData.shown .none)) H) ∨
  ∃ t : Str, xs = [.str t] ∧ (PyData.shown (.str t)).length ≤ sizeLine ∧ Q (.str (PyData.shown (.str t))) H
theorem call_reprX (hgd : X.A.guards = some []) (hu : X.A.units + 65 < cLine) : CallR X (.builtin "repr") rReprS := fun pins s σ H xs us Q I r h => by
  have fin : ∀ (t : Str) (u : Tok), Q (.str t) H → EP X pins σ Q (.str t u) { s with toks := s.toks + 1 } := fun t u q => ⟨.str t, H, I.tok _, ⟨_, rfl⟩, q⟩
  rcases h with h | ⟨i, rfl, hi, q⟩ | ⟨b, rfl, q⟩ | ⟨rfl, q⟩ | ⟨t, rfl, ht, q⟩
  · exact call_reprQ hgd hu pins s σ H xs us Q I r h
  · obtain ⟨u, rfl, k, rfl⟩ := r.one
    exact PySem.P.repr_of_int hi (fin _ _ q)
  · obtain ⟨u, rfl, ru⟩ := r.one
    cases (show u = Value.bool b from ru)
    exact PySem.P.repr_of_bool (fin _ _ (by cases b <;> exact q))
  · obtain ⟨u, rfl, ru⟩ := r.one
    cases (show u = Value.none from ru)
    exact PySem.P.repr_of_none (fin _ _ q)
  · obtain ⟨u, rfl, k, rfl⟩ := r.one
    exact PySem.P.repr_of_str (fin _ _ q) ht
end
/-! ### the keys of a dict of the module -/
theorem keys_miss {z : Str} : ∀ {ks : List Str} {l : List DictEntry}, Vals (ks.map V.str) (l.map (·.key)) → z ∉ ks → l.find? (·.key.isStr z) = none ∧ l.any (·.refKey) = false
  | [], l, h, _ => by
    cases l with
    | nil => exact ⟨rfl, rfl⟩
    | cons e r => cases h
  | k :: ks, l, h, hz => by
    cases l with
    | nil => cases h
    | cons e r =>
      cases h with
      | cons a b =>
        obtain ⟨t, ht⟩ := (show ∃ t, e.key = Value.str k t from a)
        obtain ⟨h1, h2⟩ := keys_miss b fun m => hz (List.mem_cons_of_mem _ m)
        have nk : k ≠ z := fun e => hz (by rw [e]; exact List.mem_cons_self)
        refine ⟨?_, ?_⟩
        · rw [List.find?_cons_of_neg (by rw [ht]; simp [Value.isStr, nk])]
          exact h1
        · rw [List.any_cons, h2]
          simp [DictEntry.refKey, ht]
theorem ns_miss {K : PySem.W.Frag} {d : Addr} {c : Value} {od : Option Addr} {es : Array DictEntry} {ep : Nat} {sl : Array (Option Value)} {ks : List Str} {z : Str} (hl : K.lookup d = some ⟨c, od, .dict es ep, sl⟩) (hv : Vals (ks.map V.str) (es.toList.map (·.key))) (hz : z ∉ ks) : PySem.W.nsIn K d z = some none := by
  obtain ⟨h1, h2⟩ := keys_miss hv hz
  unfold PySem.W.nsIn
  rw [hl]
  simp only [h1, h2, Bool.false_eq_true, if_false]
end FR
set_option Elab.async false
set_option linter.all false
set_option maxRecDepth 100000
/-! «x in texts» for anything; a list of anything beside the empty list -/
namespace FR
open PySem PySem.Spec PyProof.Rows L2 TL PySem.SeqAt
section
variable {X : Cx}
/-- what «v in the texts ws» gives -/
def InT (K : PySem.W.Frag) (H : Hp) (v : V) (ws : List Str) (r : Bool) : Prop := (flatV v = true ∧ inV v (ws.map V.str) = r) ∨ (∃ d, Dp K H v d ∧ SeqAt.shaped d = true ∧ SeqAt.shaped (.list (ws.map .str)) = true ∧ ((ws.map PyData.str).any fun z => PyData.eqv z d) = r) ∨
  ∃ (a : Addr) (kvs : List (Key × V)), v = .ref a ∧ H a = some (.dK kvs) ∧ false = r
def rInT (K : PySem.W.Frag) : R2 := fun x y H Q => ∃ (p : Addr) (ws : List Str) (r : Bool), y = .ref p ∧ SqL K H p (ws.map V.str) ∧ InT K H x ws r ∧ Q (.bl r) H
theorem op_inT (hu : X.A.units + 65 < cLine) : OpR X (compareOp .In) (rInT X.K) := by
  intro pins s σ H x y v u Q I rx ry h
  obtain ⟨p, ws, r, rfl, hp, ⟨hf, rfl⟩ | ⟨d, hd, s1, s2, rfl⟩ | ⟨a, kvs, rfl, ha, rfl⟩, q⟩ := h
  · exact op_in_seq pins s σ H x _ v u Q I rx ry ⟨p, _, rfl, .inl hp, hf, flat_strs ws, q⟩
  · exact op_inD hu pins s σ H x _ v u Q I rx ry ⟨d, _, hd, .lst hp (dpAll_strs ws), s1, s2, q⟩
  · cases (show v = Value.ref a from rx)
    cases (show u = Value.ref p from ry)
    obtain ⟨_, _, vs, kv, o, es, ep, e, hx, hd, _, _, _⟩ := (show ObjOk X.prog X.w H s.heap a (.dK _) from I.hok _ _ ha)
    obtain ⟨its, rv, hl, _⟩ := I.list hp
    refine in_listAt (fun _ => false) hl.isList (fun z hz => ?_) ⟨.bl false, H, I, ?_, q⟩
    · obtain ⟨x, t, rfl⟩ := vals_strs rv z (by simpa using hz)
      exact eqAt_str_dict x t e hx.1 hd (by show X.A.units + 1 < cLine; omega)
    · show Value.bool _ = Value.bool false
      simp
def rNil (K : PySem.W.Frag) (neg : Bool) : R2 := fun x y H Q => ∃ (p q : Addr) (xs : List V), x = .ref p ∧ y = .ref q ∧ SqL K H p xs ∧ SqL K H q [] ∧ Q (.bl (neg != xs.isEmpty)) H
theorem op_eqNil (hu : X.A.units + 65 < cLine) : OpR X (compareOp .Eq) (rNil X.K false) := by
  intro pins s σ H x y v u Q I rx ry h
  obtain ⟨p, q, xs, rfl, rfl, hp, hq, z⟩ := h
  cases (show v = Value.ref p from rx)
  cases (show u = Value.ref q from ry)
  obtain ⟨its, rv, hl, _⟩ := I.list hp
  obtain ⟨its2, rv2, hl2, _⟩ := I.list hq
  cases rv2
  cases rv with
  | nil => exact SeqAt.eq_listAt (e := fun _ => true) hl.isList hl2.isList rfl (by omega) (fun j h1 _ => absurd h1 (by simp)) ⟨.bl true, H, I, rfl, z⟩
  | cons a b => exact SeqAt.eq_list_lengthsAt hl.isList hl2.isList (by simp) (by omega) ⟨.bl false, H, I, rfl, z⟩
theorem op_neNil (hu : X.A.units + 65 < cLine) : OpR X (compareOp .NotEq) (rNil X.K true) := by
  intro pins s σ H x y v u Q I rx ry h
  obtain ⟨p, q, xs, rfl, rfl, hp, hq, z⟩ := h
  cases (show v = Value.ref p from rx)
  cases (show u = Value.ref q from ry)
  obtain ⟨its, rv, hl, _⟩ := I.list hp
  obtain ⟨its2, rv2, hl2, _⟩ := I.list hq
  cases rv2
  cases rv with
  | nil => exact RcNeAt.lists (e := fun _ => true) hl.isList hl2.isList rfl (by omega) (fun j h1 _ => absurd h1 (by simp)) X.prog X.w _ _ ⟨.bl false, H, I, rfl, z⟩
  | cons a b => exact RcNeAt.lists_lengths hl.isList hl2.isList (by simp) (by omega) X.prog X.w _ _ ⟨.bl true, H, I, rfl, z⟩
end
end FR
set_option Elab.async false
set_option linter.all false
set_option maxRecDepth 100000
set_option maxHeartbeats 2000000
/-! the end of a row whose defs make lambdas, for a promise that knows that no repr is under way -/
namespace FR
open PySem PySem.Spec PyProof.Rows L2 TL LamX
/-- the script (where it is not the module's) and the empty tables -/
def hStart (a : Addr) (o : HO) (own : Bool) (ts : List Addr) : Hp := fun b => if b ∈ ts then some (.tbl #[]) else if b = a ∧ own = true then some o else none
section
variable {a : Addr} {o : HO} {own : Bool} {ts : List Addr}
theorem hStart.tab {b : Addr} (h : b ∈ ts) : hStart a o own ts b = some (.tbl #[]) := if_pos h
theorem hStart.script (h : a ∉ ts) (w : own = true) : hStart a o own ts a = some o := (if_neg h).trans (if_pos ⟨rfl, w⟩)
theorem hStart.what {b : Addr} {u : HO} (h : hStart a o own ts b = some u) : (b ∈ ts ∧ u = .tbl #[]) ∨ (b ∉ ts ∧ b = a ∧ own = true ∧ u = o) := by
  unfold hStart at h
  split at h
  · rename_i m
    exact .inl ⟨m, (Option.some.inj h).symm⟩
  · rename_i m
    split at h
    · rename_i e
      exact .inr ⟨m, e.1, e.2, (Option.some.inj h).symm⟩
    · cases h
end
abbrev oTab : Obj := { cls := .none, data := .fields #[] }
theorem law_callTG {P : Program} {w : World} {K : PySem.W.Frag} {mg mb : Str → Option Value} {k : Nat} {fa a : Addr} {cs : List (Addr × Addr)} {sp : Sp} {s1 : Shared} {vs : List Value} {ns : List Int}
    (KX : K.In s1.heap) (hns : s1.heap.Ns mainGlobals mg) (hb : s1.heap.Ns builtinsNs mb) (hbb : ∀ x : Str, x ≠ "__name__" → mb x = bootBuiltins x) (hlim : s1.heap.NoLimit) (hg : s1.gens = #[])
    (hT : ∀ p ∈ cs, s1.heap.get? p.2 = some oTab) (nT : ∀ p ∈ cs, K.lookup p.2 = none) (C : ∀ p ∈ cs, PySem.W.CodeHd s1.heap p.1 p.2)
    (hbm : ∃ (bm : Addr) (ob : Obj), mg "__builtins__" = some (.ref bm) ∧ bm ≠ builtinsNs ∧ s1.heap.get? bm = some ob ∧ ob.cls = .type "module" ∧ ob.dict = some builtinsNs ∧ ob.data = .plain)
    (ha : s1.heap.get? a = some { cls := .type "list", data := .seq vs.toArray }) (hi : IntsAre vs ns) (hl : ns.length ≤ sizeLine) (hr : Room k callerA)
    (F : ∀ base : Heap, K.In base → base.Ns mainGlobals mg → (∀ p ∈ cs, TabB base mg p.1 p.2) → FnG P w K mg base CX0 k fa sp)
    (hsp : ∀ H : Hp, (∀ p ∈ cs, H p.2 = some (.tbl #[])) → SqL K H a (ns.map V.int) → sp [.ref a] H (fun v _ => v = .bl true) fun _ _ _ => False) :
    codeAny (model P w) callerA (.call (.ref fa) ⟨[.ref a], []⟩) (fun r s' => r = .ok (.ret (.bool true)) ∧ OldK s1.heap s'.heap ∧ s'.os = s1.os ∧ AllBare s'.gens) s1 := by
  have rv := vals_ints hi
  have lv := hi.length
  have isT : ∀ b ∈ cs.map (·.2), s1.heap.get? b = some oTab := fun b m => by
    obtain ⟨p, hp, rfl⟩ := List.mem_map.mp m
    exact hT p hp
  have aT : a ∉ cs.map (·.2) := fun m => by
    have := isT a m
    rw [ha] at this
    cases congrArg Obj.data (Option.some.inj this)
  obtain ⟨own, how⟩ : ∃ own, own = (K.lookup a).isNone := ⟨_, rfl⟩
  obtain ⟨H, hH⟩ : ∃ H, hStart a (.frz { cls := .type "list", data := .seq vs.toArray } (.lst (ns.map V.int))) own (cs.map (·.2)) = H := ⟨_, rfl⟩
  have tabs : ∀ b ∈ cs.map (·.2), H b = some (.tbl #[]) := fun b m => by rw [← hH]; exact hStart.tab m
  have what : ∀ {b : Addr} {u : HO}, H b = some u → (b ∈ cs.map (·.2) ∧ u = .tbl #[]) ∨ (b ∉ cs.map (·.2) ∧ b = a ∧ own = true ∧ u = .frz { cls := .type "list", data := .seq vs.toArray } (.lst (ns.map V.int))) := fun {b u} h => hStart.what (by rw [hH]; exact h)
  have hS : SqL K H a (ns.map V.int) := by
    cases hk : K.lookup a with
    | some o =>
      cases ha.symm.trans (KX a o hk)
      exact .inr ⟨_, vs.toArray, _, hk, rfl, rfl, rfl, by rw [List.size_toArray, lv]; exact hl, by simpa using rv⟩
    | none => exact .inl (.inr ⟨_, by rw [← hH]; exact hStart.script aT (by rw [how, hk]; rfl)⟩)
  have hok : HOk P w H s1.heap := fun b u z => by
    rcases what z with ⟨m, rfl⟩ | ⟨_, rfl, _, rfl⟩
    · exact isT b m
    · exact ⟨ha, by rw [List.length_map]; exact hl, vs, _, rv, ha⟩
  have apart : ∀ {b : Addr} {ob : Obj}, s1.heap.get? b = some ob → (∀ l n, ob.data ≠ .seq l n) → ob.data ≠ .fields #[] → H b = none := fun {b ob} e n1 n2 => by
    cases q : H b with
    | none => rfl
    | some u =>
      rcases what q with ⟨m, _⟩ | ⟨_, rfl, _, _⟩
      · cases (isT b m).symm.trans e
        exact (n2 rfl).elim
      · cases ha.symm.trans e
        exact (n1 _ _ rfl).elim
  have isD : ∀ {b : Addr} {ob : Obj} {es : Array DictEntry} {ep : Nat}, s1.heap.get? b = some ob → ob.data = .dict es ep → H b = none := fun e d => apart e (by rw [d]; exact fun _ _ z => nomatch z) (by rw [d]; exact fun z => nomatch z)
  have nsH : ∀ {b : Addr} {m : Str → Option Value}, s1.heap.Ns b m → (hidT s1.heap H).Ns b m := fun ⟨o, es, ep, e, d, r⟩ => ⟨o, es, ep, hidT_get e (isD e d), d, r⟩
  have KH : K.In (hidT s1.heap H) := fun b o e => hidT_get (KX b o e) (by
    cases q : H b with
    | none => rfl
    | some u =>
      rcases what q with ⟨m, _⟩ | ⟨_, rfl, w0, _⟩
      · obtain ⟨p, hp, rfl⟩ := List.mem_map.mp m
        cases (nT p hp).symm.trans e
      · rw [how, e] at w0
        cases w0)
  have md : Mod K mg (hidT s1.heap H) := ⟨KH, nsH hns, ⟨mb, nsH hb, hbb⟩, hlim.elim fun mc hc => ⟨mc, nsH hc.1, hc.2⟩⟩
  have en : Env0 P w K mg (hidT s1.heap H) callerA [] s1 H := ⟨rfl, md, fun _ _ e => of_hidT e, Nat.le_of_eq (hidT_size ..), True.intro, fun _ hb => (List.not_mem_nil hb).elim, hok, AllBare.of_eq hg⟩
  have tb : ∀ p ∈ cs, TabB (hidT s1.heap H) mg p.1 p.2 := fun p hp => by
    refine ⟨?_, ?_, fun z => ?_⟩
    · obtain ⟨oc, us, file, tf, flags, tg, inF, text, tt, e1, r1, r2, r3, r⟩ := C p hp
      refine ⟨oc, us, file, tf, flags, tg, inF, text, tt, hidT_get e1 (apart e1 (by rw [r2]; exact fun _ _ z => nomatch z) fun z => ?_), r1, r2, r3, r⟩
      rw [r2] at z
      cases z
      simp at r3
    · obtain ⟨bm, ob, b1, b2, b3, b4, b5, b6⟩ := hbm
      refine ⟨bm, ob, b1, b2, fun z => ?_, fun z => ?_, hidT_get b3 (apart b3 (by rw [b6]; exact fun _ _ z => nomatch z) (by rw [b6]; exact fun z => nomatch z)), b4, b5, b6⟩
      · obtain ⟨og, es, ep, e, d, _⟩ := hns
        rw [z] at b3
        cases e.symm.trans b3
        rw [b6] at d
        cases d
      · rw [z] at b3
        cases (hT p hp).symm.trans b3
        cases b6
    · obtain ⟨og, es, ep, e, d, _⟩ := hns
      rw [z] at e
      cases (hT p hp).symm.trans e
      cases d
  refine codeAny_mono (F _ KH (nsH hns) tb callerA [] s1 H [.ref a] [.ref a] _ _ rfl hr en (.cons rfl .nil) (hsp H (fun p hp => tabs _ (List.mem_map.mpr ⟨p, hp, rfl⟩)) hS)) fun r s' h => ?_
  match r, h with
  | .error e, h => exact h.elim
  | .ok .next, h => exact h.elim
  | .ok .brk, h => exact h.elim
  | .ok .cont, h => exact h.elim
  | .ok (.ret u), h =>
    obtain ⟨v, H', os, bare, un, hok', rr, q⟩ := h
    cases (show v = .bl true from q)
    cases (show u = Value.bool true from rr)
    have same : ∀ b ob, b ∉ cs.map (·.2) → s1.heap.get? b = some ob → s'.heap.get? b = some ob := fun b ob nb e => by
      cases z : H b with
      | none => exact un.keep b ob e z (fun y => (List.not_mem_nil y).elim) List.not_mem_nil
      | some u =>
        rcases what z with ⟨m, _⟩ | ⟨_, rfl, _, rfl⟩
        · exact (nb m).elim
        · cases ha.symm.trans e
          exact (hok' b _ (un.frzs b _ _ z)).1
    have more : ∀ p ∈ cs, ∃ ms : Array Value, s'.heap.get? p.2 = some { cls := .none, data := .fields ms } := fun p hp => by
      obtain ⟨ms, z⟩ := un.tbls p.2 #[] (tabs _ (List.mem_map.mpr ⟨p, hp, rfl⟩))
      exact ⟨_, hok' p.2 _ z⟩
    refine ⟨rfl, ⟨fun b ob e => ?_, fun b ob e => ?_⟩, os, bare⟩
    · by_cases m : b ∈ cs.map (·.2)
      · obtain ⟨p, hp, rfl⟩ := List.mem_map.mp m
        obtain ⟨ms, z⟩ := more p hp
        cases (hT p hp).symm.trans e
        exact .inr (.inl ⟨((C p hp).tab (hT p hp)).isCodeTable, rfl, #[], ms, rfl, by rw [Array.empty_append]; exact z⟩)
      · exact .inl (same b ob m e)
    · by_cases m : b ∈ cs.map (·.2)
      · obtain ⟨p, hp, rfl⟩ := List.mem_map.mp m
        obtain ⟨ms, z⟩ := more p hp
        exact ⟨_, z⟩
      · exact ⟨ob, same b ob m e⟩
/-- what is known of the law's promise at the heap h -/
def LawG (l : PySem.W.OpenLaw) (w : World) (K : PySem.W.Frag) (k n : Nat) (mg : Str → Option Value) (fa : Addr) (h : Heap) : Prop :=
  ∃ (cs : List (Addr × Addr)) (sp : Sp), (∀ p ∈ cs, h.get? p.2 = some oTab) ∧ (∀ p ∈ cs, K.lookup p.2 = none) ∧ (∀ p ∈ cs, PySem.W.CodeHd h p.1 p.2) ∧
    (∀ (H : Hp) (a : Addr) (ns : List Int), ns.length ≤ n → (∀ p ∈ cs, H p.2 = some (.tbl #[])) → SqL K H a (ns.map V.int) → sp [.ref a] H (fun v _ => v = .bl true) fun _ _ _ => False) ∧
    ∀ base : Heap, K.In base → base.Ns mainGlobals mg → (∀ p ∈ cs, TabB base mg p.1 p.2) → FnG l.prog w K mg base CX0 k fa sp
theorem walk_ofTG {l : PySem.W.OpenLaw} {n k : Nat} {q : Program} {loose : List Str} {XP : (Str → Option Value) → Heap → Prop} {YP : World → Heap → Prop} {d : DefRec} {K : Params → PySem.W.Frag}
    (hn : l.most = some n) (hn2 : n ≤ sizeLine) (hdf : d.params.defaults = []) (hr : Room k callerA) (hY : ∀ (w : World) (h : Heap), YP w h → (K w.params).In h)
    (F : ∀ (w : World) (mg : Str → Option Value) (fa : Addr) (h : Heap), YP w h → (K w.params).In h → h.Ns mainGlobals mg → mg d.name = some (.ref fa) → LawG l w (K w.params) k n mg fa h) :
    PySem.W.WalkO q loose XP YP l.row.toRowW d [] (fun f vs => PySem.call f vs) := by
  refine Att.attach_call hn hdf fun w s0 s1 mg mb fa o pm cd doc a vs ns G Y ho hd hcd hmg hobj hints hlen hg => ?_
  have KX := hY w _ Y
  obtain ⟨cs, sp, hT, nT, C, hsp, hF⟩ := F w mg fa _ Y KX G.T.g hmg
  exact law_callTG KX G.T.g G.T.b G.T.builtins G.T.nolimit hg hT nT C G.T.bmain hobj hints (Nat.le_trans hlen hn2) hr hF fun H hH hS => hsp H a ns hlen hH hS
/-- a def whose code object is known: it makes lambdas -/
structure FunL (K : PySem.W.Frag) (x qual : Str) (st : Stmt) (f : Addr) (c : Addr) : Prop where
  ex : ∃ (oc : Value) (od : Option Addr) (kV doc pm : Value) (an : Option Addr) (ct : Value) (osl : Array (Option Value)), K.lookup f = some ⟨oc, od, .func (PySem.W.fnOf x qual (defArgs st) (defBody st) (defScope st) .none kV doc pm an (.ref c) ct), osl⟩
  cd : PySem.W.codeIn K (.ref c) qual = true
theorem okGC0 {P : Program} {w : World} {K : PySem.W.Frag} {mg : Str → Option Value} {base : Heap} {k : Nat} {f c : Addr} {sp : Sp} {x qual : Str} {st : Stmt} {fd : FuncData} {N ps : List Str} (L : FunL K x qual st f c) (F : L2.Fun K x qual st f fd) (S : FnScope N ps (defScope st)) (B : Binds K fd ps []) (hlen : ∀ vs H Q E, sp vs H Q E → vs.length = ps.length)
    (hbody : ∀ (A : Around) (outer : List Env) (s : Shared) (H : Hp) (vs : List V) (Q : VK) (E : XK), A.guards = some [] → Room k (A.deeper (envOfC qual (defScope st) s.heap.objs.size f (.ref c))) → sp vs H Q E →
      ∃ t, PSs (cxOf CX0 P w K mg base N qual (defScope st) f (.ref c) A outer s H E).nox (defBody st) t ∧ t { nx := fun _ H' => Q .non H', rt := Q } (start N vs) H) : FnG P w K mg base CX0 (k + 1) f sp := by
  intro A outer s H us vs Q E hg hr e0 r hsp
  obtain ⟨oc, od, kV, doc, pm, an, cdv, ct, osl, rfl, lk, hcd⟩ := F.ex
  obtain ⟨oc', od', kV', doc', pm', an', ct', osl', lk'⟩ := L.ex
  cases lk.symm.trans lk'
  have hv : vs.length = ps.length := hlen _ _ _ _ hsp
  have hu : us.length = ps.length := by rw [← r.length]; exact hv
  have KI : K.In s.heap := e0.mod.kin.keeps fun b o e => (e0.bs b o e).1
  have b0 := B s us KI (by rw [List.append_nil]; exact hu)
  rw [List.append_nil] at b0
  refine StX.run_bnd lk hcd S hr e0 (G := fun xs H2 => xs = vs ∧ H2 = H) (fun A' Ex Q' h => ?_) fun s2 H2 xs ⟨ex, eH⟩ hr' => ?_
  · exact b0 _ _ _ _ (h s H vs us e0 Un.refl rfl (fun _ _ z => z) r hv ⟨rfl, rfl⟩)
  · subst ex eH
    obtain ⟨t, a, b⟩ := hbody A outer s2 _ _ Q E hg hr' hsp
    exact ⟨t, a.nox, b⟩
end FR
set_option Elab.async false
set_option linter.all false
set_option maxRecDepth 100000
/-! a classmethod without arguments -/
namespace ClX
open PySem PySem.Spec PyProof.Rows L2
section
variable {X : Cx} {C g p : Addr} {mc : Value} {m : Str} {o : Expr} {ta : TE} {CX : CXT} {k : Nat} {sp : Sp} {E : XK} {apos pos : Pos}
theorem pe_cmeth0 {pl : Sem Bool} (he : PE X o ta) (r : CRead X.K C mc) (c : CMet X.K C mc m p g) (F : FnR X.prog X.w X.K X.mg X.base CX k g sp) (hr : Room k X.A) (hx : Passes CX X E)
    (ht : eval (.Call (.Attribute o m apos) [] [] pos) X.env = (do
      let ov ← eval o X.env
      standAt apos.atName
      let (f, first) ← holding [ov] (getMethod ov m pl)
      callWith pos f first (backTo pos (starEach [] X.env)) (backToKw pos (keywordEach [] X.env))) := by rfl) :
    PE X (.Call (.Attribute o m apos) [] [] pos) (tCMeth C sp E ta tNil) := by
  refine ⟨fun pins s σ H Q I h => ?_⟩
  refine PySem.W.methodCall_KW (pl := pl) (thn (he.run pins s σ H _ I h) fun u s1 ⟨x, H1, I1, rx, ex, q⟩ => ?_) ht
  subst ex
  obtain rfl : u = Value.ref C := rx
  refine getmethcm_ok I1 r c fun s2 I2 => ?_
  exact PySem.W.callWith_M0 (first := []) ⟨pin_at I2, I2.kIn⟩ c.fi (run_cm F hr hx I2 .nil q)
end
end ClX
set_option Elab.async false
set_option linter.all false
set_option maxRecDepth 100000
set_option maxHeartbeats 1000000
/-! zip of a tuple and a list (any two iterators that are asked by nextOf) -/
namespace FR
open PySem
open PySem.Sem (wp)
/-- an iterator at it over what stands at l, asked by nextOf -/
structure Nx (prog : Program) (w : World) (it l : Addr) (xs : Array Value) (St : Nat → Heap → Prop) : Prop where
  one : ∀ (A : Around) (E Q : Value → Shared → Prop) (s : Shared) (k : Nat) (x : Value), St k s.heap → xs[k]? = some x → (∀ g, St (k + 1) g → Heap.SameBut it s.heap g → Q x { s with heap := g }) → wpAny (model prog w) A (Builtin.SmallTypes.nextOf (.ref it)) Q E s
  fin : ∀ (A : Around) (E Q : Value → Shared → Prop) (s : Shared) (k : Nat), A.handled = none → St k s.heap → xs[k]? = none → (∀ g e, Heap.ExtBut it s.heap g → (∃ o, g.get? e = some o ∧ o.cls = .type "StopIteration") → E (.ref e) { s with heap := g }) →
    wpAny (model prog w) A (Builtin.SmallTypes.nextOf (.ref it)) Q E s
  frame : ∀ k h g b, St k h → Heap.ExtBut b h g → it ≠ b → l ≠ b → St k g
section
variable {prog : Program} {w : World}
theorem nx_tup {it l : Addr} {xs : Array Value} (ne : l ≠ it) : Nx prog w it l xs (fun k h => h.IsTupleIter it l k ∧ h.IsTuple l xs) where
  one := fun A E Q s k x st e q => RZ.nextOf_tuple_item st.1 st.2 e fun g z sb => q g ⟨z, st.2.extBut sb.extBut ne⟩ sb
  fin := fun A E Q s k hh st e q => RZ.nextOf_tuple_end hh st.1 st.2 e q
  frame := fun k h g b st x n1 n2 => ⟨st.1.extBut x n1, st.2.extBut x n2⟩
theorem nx_lst {it l : Addr} {xs : Array Value} (ne : l ≠ it) : Nx prog w it l xs (fun k h => h.IsListIter it l k ∧ h.IsList l xs) where
  one := fun A E Q s k x st e q => wpAny_nextOf_list_item st.1 st.2 e fun g z sb => q g ⟨z, st.2.extBut sb.extBut ne⟩ sb
  fin := fun A E Q s k hh st e q => wpAny_nextOf_list_end hh st.1 st.2 e q
  frame := fun k h g b st x n1 n2 => ⟨st.1.extBut x n1, st.2.extBut x n2⟩
/-- a zip that stands between two turns -/
structure ZAt (h : Heap) (z TI TO i1 i2 : Addr) (f : Value) (a b : Value) : Prop where
  zp : IsZip h z TI TO f
  ti : IsPair h TI (.ref i1) (.ref i2)
  to : IsPair h TO a b
variable {A : Around} {E : Value → Shared → Prop} {s : Shared} {z TI TO i1 i2 l1 l2 : Addr} {k1 k2 : Nat} {xs ys : Array Value} {x y a b : Value} {S1 S2 : Nat → Heap → Prop}
theorem zg_item {Q : Value → Shared → Prop} (D : ZipApart z TI TO i1 i2 l1 l2) (N1 : Nx prog w i1 l1 xs S1) (N2 : Nx prog w i2 l2 ys S2) (Z : ZAt s.heap z TI TO i1 i2 .none a b)
    (h1 : S1 k1 s.heap) (h2 : S2 k2 s.heap) (ex : xs[k1]? = some x) (ey : ys[k2]? = some y) (big : z < s.heap.objs.size ∧ l1 < s.heap.objs.size ∧ l2 < s.heap.objs.size ∧ i1 < s.heap.objs.size ∧ i2 < s.heap.objs.size)
    (q : ∀ g, ZAt g z TI TO i1 i2 (rawInt s.heap.objs.size) x y → S1 (k1 + 1) g → S2 (k2 + 1) g → IsPair g s.heap.objs.size x y →
      (∀ c o, c ≠ z → c ≠ TO → c ≠ i1 → c ≠ i2 → s.heap.get? c = some o → g.get? c = some o) → Q (.ref s.heap.objs.size) { s with heap := g }) :
    wpAny (model prog w) A (Builtin.«zip.__next__» ⟨[.ref z], []⟩) (fun fin s' => ∃ v, fin = .done (.ret v) ∧ Q v s') E s := by
  obtain ⟨zp, ti, to⟩ := Z
  obtain ⟨bz, bl1, bl2, bi1, bi2⟩ := big
  show wpAny _ _ (field (.ref z) 2 >>= _) _ _ _; refine wpAny_bind (wpAny_field zp rfl (x := .bool false) rfl ?_)
  show wpAny _ _ (field (.ref z) 3 >>= _) _ _ _; refine wpAny_bind (wpAny_field zp rfl (x := .ref TI) rfl ?_)
  refine wpAny_bind (wpAny_seqItems ti rfl ?_)
  show wpAny _ _ (Builtin.SmallTypes.ownedTupleIsFree (.ref z) >>= _) _ _ _; refine wpAny_bind ?_
  unfold Builtin.SmallTypes.ownedTupleIsFree; refine wpAny_bind (wpAny_field zp rfl (x := .none) rfl (wpAny_pure ?_))
  simp only [if_true]; refine wpAny_bind (wpAny_rule ?_)
  refine wpAny_bind (wpAny_field zp rfl (x := .ref TO) rfl ?_); refine wpAny_bind (wpAny_setField_rec zp (by simp) fun g1 z1 s1 => ?_)
  have z1 : IsZip g1 z TI TO .ellipsis := z1
  refine wpAny_bind ?_; simp only [List.zipIdx_cons, List.zipIdx_nil, List.forIn_cons, List.forIn_nil]
  refine wpAny_bind (wpAny_bind (wpAny_onRaise ?_)); show wpAny _ _ (Builtin.SmallTypes.nextOf (.ref i1) >>= _) _ _ _
  refine wpAny_bind (N1.one _ _ _ _ k1 x (N1.frame _ _ _ _ h1 s1.extBut D.i1z D.l1z) ex fun g2 t1 s2 => wpAny_pure ?_)
  have to2 : IsPair g2 TO a b := s2.extBut _ _ D.TOi1 (s1.extBut _ _ D.TOz to)
  have r2 := N2.frame _ _ _ _ (N2.frame _ _ _ _ h2 s1.extBut D.i2z D.l2z) s2.extBut D.i12.symm D.l2i1
  refine wpAny_bind (wpAny_seqItems to2 rfl ?_); refine wpAny_bind (wpAny_updateSeq_pair to2 fun g3 to3 s3 => ?_)
  have to3 : IsPair g3 TO x b := to3
  refine wpAny_bind (wpAny_letGo (wpAny_pure ?_)); refine wpAny_bind (wpAny_bind (wpAny_onRaise ?_))
  show wpAny _ _ (Builtin.SmallTypes.nextOf (.ref i2) >>= _) _ _ _
  refine wpAny_bind (N2.one _ _ _ _ k2 y (N2.frame _ _ _ _ r2 s3.extBut D.TOi2.symm D.l2TO) ey fun g4 t2 s4 => wpAny_pure ?_)
  have to4 : IsPair g4 TO x b := s4.extBut _ _ D.TOi2 to3
  refine wpAny_bind (wpAny_seqItems to4 rfl ?_); refine wpAny_bind (wpAny_updateSeq_pair to4 fun g5 to5 s5 => ?_)
  have to5 : IsPair g5 TO x y := to5
  refine wpAny_bind (wpAny_letGo (wpAny_pure (wpAny_pure ?_))); refine wpAny_bind (wpAny_seqItems to5 rfl ?_); refine wpAny_bind (wpAny_newTuple ?_)
  have sz : g5.objs.size = s.heap.objs.size := by rw [s5.1, s4.1, s3.1, s2.1, s1.1]
  have z5 : IsZip g5 z TI TO .ellipsis := s5.extBut _ _ D.TOz.symm (s4.extBut _ _ D.i2z.symm (s3.extBut _ _ D.TOz.symm (s2.extBut _ _ D.i1z.symm z1)))
  have k5 : ∀ c o, c ≠ z → c ≠ TO → c ≠ i1 → c ≠ i2 → s.heap.get? c = some o → g5.get? c = some o := fun c o n1 n2 n3 n4 e =>
    s5.extBut _ _ n2 (s4.extBut _ _ n4 (s3.extBut _ _ n2 (s2.extBut _ _ n3 (s1.extBut _ _ n1 e))))
  have u1 : S1 (k1 + 1) g5 := N1.frame _ _ _ _ (N1.frame _ _ _ _ (N1.frame _ _ _ _ t1 s3.extBut D.TOi1.symm D.l1TO) s4.extBut D.i12 D.l1i2) s5.extBut D.TOi1.symm D.l1TO
  have u2 : S2 (k2 + 1) g5 := N2.frame _ _ _ _ t2 s5.extBut D.TOi2.symm D.l2TO
  show wpAny _ _ (Builtin.SmallTypes.ownedTupleHandOut (.ref z) (.ref g5.objs.size) >>= _) _ _ _
  refine wpAny_bind ?_; unfold Builtin.SmallTypes.ownedTupleHandOut
  have z6 : IsZip (g5.push { cls := .type "tuple", data := .seq #[x, y] }) z TI TO .ellipsis := Heap.get?_push_of_some _ z5
  refine wpAny_bind (wpAny_setField_rec z6 (by simp) fun g7 z7 s7 => ?_)
  have z7 : IsZip g7 z TI TO (rawInt g5.objs.size) := z7
  refine wpAny_setField_rec z7 (by simp) fun g8 z8 s8 => ?_
  have z8 : IsZip g8 z TI TO (rawInt g5.objs.size) := z8
  have up : ∀ c o, c ≠ z → g5.get? c = some o → g8.get? c = some o := fun c o n e => s8.extBut _ _ n (s7.extBut _ _ n (Heap.get?_push_of_some _ e))
  have zz : g5.objs.size ≠ z := Nat.ne_of_gt (by rw [sz]; exact bz)
  have m1 : i1 ≠ g5.objs.size := Nat.ne_of_lt (by rw [sz]; exact bi1)
  have m2 : i2 ≠ g5.objs.size := Nat.ne_of_lt (by rw [sz]; exact bi2)
  have m3 : l1 ≠ g5.objs.size := Nat.ne_of_lt (by rw [sz]; exact bl1)
  have m4 : l2 ≠ g5.objs.size := Nat.ne_of_lt (by rw [sz]; exact bl2)
  have hT : IsPair g8 g5.objs.size x y := s8.extBut _ _ zz (s7.extBut _ _ zz (Heap.get?_push_size _ rfl))
  have p6 : Heap.ExtBut g5.objs.size g5 (g5.push { cls := .type "tuple", data := .seq #[x, y] }) := fun c o _ e => Heap.get?_push_of_some _ e
  have fr1 : S1 (k1 + 1) g8 := N1.frame _ _ _ _ (N1.frame _ _ _ _ (N1.frame _ _ _ _ u1 p6 m1 m3) s7.extBut D.i1z D.l1z) s8.extBut D.i1z D.l1z
  have fr2 : S2 (k2 + 1) g8 := N2.frame _ _ _ _ (N2.frame _ _ _ _ (N2.frame _ _ _ _ u2 p6 m2 m4) s7.extBut D.i2z D.l2z) s8.extBut D.i2z D.l2z
  rw [sz] at z8 hT
  refine wpAny_pure ⟨_, rfl, ?_⟩
  show Q (.ref g5.objs.size) _
  rw [sz]
  have ti5 : IsPair g5 TI (.ref i1) (.ref i2) := k5 _ _ D.TIz D.TITO D.TIi1 D.TIi2 ti
  exact q g8 ⟨z8, up _ _ D.TIz ti5, up _ _ D.TOz to5⟩ fr1 fr2 hT fun c o n1 n2 n3 n4 e => up c o n1 (k5 c o n1 n2 n3 n4 e)
theorem zg_end {Q : Fin → Shared → Prop} (hh : A.handled = none) (D : ZipApart z TI TO i1 i2 l1 l2) (N1 : Nx prog w i1 l1 xs S1) (N2 : Nx prog w i2 l2 ys S2) (Z : ZAt s.heap z TI TO i1 i2 .none a b)
    (h1 : S1 k1 s.heap) (h2 : S2 k2 s.heap) (en : xs[k1]? = none ∨ ys[k2]? = none)
    (q : ∀ g e, (∀ c o, c ≠ z → c ≠ TO → c ≠ i1 → c ≠ i2 → s.heap.get? c = some o → g.get? c = some o) → (∃ o, g.get? e = some o ∧ o.cls = .type "StopIteration") → E (.ref e) { s with heap := g }) :
    wpAny (model prog w) A (Builtin.«zip.__next__» ⟨[.ref z], []⟩) Q E s := by
  obtain ⟨zp, ti, to⟩ := Z
  show wpAny _ _ (field (.ref z) 2 >>= _) _ _ _; refine wpAny_bind (wpAny_field zp rfl (x := .bool false) rfl ?_)
  show wpAny _ _ (field (.ref z) 3 >>= _) _ _ _; refine wpAny_bind (wpAny_field zp rfl (x := .ref TI) rfl ?_)
  refine wpAny_bind (wpAny_seqItems ti rfl ?_)
  show wpAny _ _ (Builtin.SmallTypes.ownedTupleIsFree (.ref z) >>= _) _ _ _; refine wpAny_bind ?_
  unfold Builtin.SmallTypes.ownedTupleIsFree; refine wpAny_bind (wpAny_field zp rfl (x := .none) rfl (wpAny_pure ?_))
  simp only [if_true]; refine wpAny_bind (wpAny_rule ?_)
  refine wpAny_bind (wpAny_field zp rfl (x := .ref TO) rfl ?_); refine wpAny_bind (wpAny_setField_rec zp (by simp) fun g1 z1 s1 => ?_)
  have z1 : IsZip g1 z TI TO .ellipsis := z1
  refine wpAny_bind ?_; simp only [List.zipIdx_cons, List.zipIdx_nil, List.forIn_cons, List.forIn_nil]
  refine wpAny_bind (wpAny_bind (wpAny_onRaise ?_)); show wpAny _ _ (Builtin.SmallTypes.nextOf (.ref i1) >>= _) _ _ _
  have f1 := N1.frame _ _ _ _ h1 s1.extBut D.i1z D.l1z
  cases ex : xs[k1]? with
  | none =>
    refine wpAny_bind (N1.fin _ _ _ _ k1 hh f1 ex fun g2 e s2 he => ?_)
    obtain ⟨oe, e1, e2⟩ := he
    have z2 : IsZip g2 z TI TO .ellipsis := s2 _ _ D.i1z.symm z1
    have ne : e ≠ z := fun h => by rw [h, z2] at e1; cases e1; simp at e2
    refine wpAny_setField_rec z2 (by simp) fun g3 _ s3 => q g3 e (fun c o n1 _ n3 _ h => s3.extBut _ _ n1 (s2 _ _ n3 (s1.extBut _ _ n1 h))) ⟨oe, s3.extBut _ _ ne e1, e2⟩
  | some x =>
    have ey : ys[k2]? = none := by rcases en with h | h; rw [ex] at h; cases h; exact h
    refine wpAny_bind (N1.one _ _ _ _ k1 x f1 ex fun g2 t1 s2 => wpAny_pure ?_)
    have to2 : IsPair g2 TO a b := s2.extBut _ _ D.TOi1 (s1.extBut _ _ D.TOz to)
    have r2 := N2.frame _ _ _ _ (N2.frame _ _ _ _ h2 s1.extBut D.i2z D.l2z) s2.extBut D.i12.symm D.l2i1
    refine wpAny_bind (wpAny_seqItems to2 rfl ?_); refine wpAny_bind (wpAny_updateSeq_pair to2 fun g3 to3 s3 => ?_)
    refine wpAny_bind (wpAny_letGo (wpAny_pure ?_)); refine wpAny_bind (wpAny_bind (wpAny_onRaise ?_))
    show wpAny _ _ (Builtin.SmallTypes.nextOf (.ref i2) >>= _) _ _ _
    refine wpAny_bind (N2.fin _ _ _ _ k2 hh (N2.frame _ _ _ _ r2 s3.extBut D.TOi2.symm D.l2TO) ey fun g4 e s4 he => ?_)
    obtain ⟨oe, e1, e2⟩ := he
    have z4 : IsZip g4 z TI TO .ellipsis := s4 _ _ D.i2z.symm (s3.extBut _ _ D.TOz.symm (s2.extBut _ _ D.i1z.symm z1))
    have ne : e ≠ z := fun h => by rw [h, z4] at e1; cases e1; simp at e2
    refine wpAny_setField_rec z4 (by simp) fun g5 _ s5 => q g5 e (fun c o n1 n2 n3 n4 h => s5.extBut _ _ n1 (s4 _ _ n4 (s3.extBut _ _ n2 (s2.extBut _ _ n3 (s1.extBut _ _ n1 h))))) ⟨oe, s5.extBut _ _ ne e1, e2⟩
theorem zg_nx {Q : Option Value → Shared → Prop} (D : ZipApart z TI TO i1 i2 l1 l2) (N1 : Nx prog w i1 l1 xs S1) (N2 : Nx prog w i2 l2 ys S2) (Z : ZAt s.heap z TI TO i1 i2 .none a b)
    (h1 : S1 k1 s.heap) (h2 : S2 k2 s.heap) (ex : xs[k1]? = some x) (ey : ys[k2]? = some y) (big : z < s.heap.objs.size ∧ l1 < s.heap.objs.size ∧ l2 < s.heap.objs.size ∧ i1 < s.heap.objs.size ∧ i2 < s.heap.objs.size)
    (q : ∀ g, ZAt g z TI TO i1 i2 (rawInt s.heap.objs.size) x y → S1 (k1 + 1) g → S2 (k2 + 1) g → IsPair g s.heap.objs.size x y →
      (∀ c o, c ≠ z → c ≠ TO → c ≠ i1 → c ≠ i2 → s.heap.get? c = some o → g.get? c = some o) → Q (some (.ref s.heap.objs.size)) { s with heap := g }) :
    wpAny (model prog w) A (pyNext (.ref z)) Q E s := by
  have hT : s.TypeIs (.ref z) "zip" := ⟨_, Z.zp, rfl⟩
  unfold pyNext
  refine wpAny_bind (wpAny_attempt (wpAny_callSpecial?_slot (name := Str.ofString "__next__") hT F.slot_zip_next ?_))
  exact wpAny_call_entry F.slot_zip_next hT F.entry_zip_next (zg_item D N1 N2 Z h1 h2 ex ey big fun g c1 c2 c3 c4 c5 => wpAny_pure (q g c1 c2 c3 c4 c5)) (F.args_zip_next_1 _)
theorem zg_stop {Q : Option Value → Shared → Prop} (hh : A.handled = none) (D : ZipApart z TI TO i1 i2 l1 l2) (N1 : Nx prog w i1 l1 xs S1) (N2 : Nx prog w i2 l2 ys S2) (Z : ZAt s.heap z TI TO i1 i2 .none a b)
    (h1 : S1 k1 s.heap) (h2 : S2 k2 s.heap) (en : xs[k1]? = none ∨ ys[k2]? = none)
    (q : ∀ g, (∀ c o, c ≠ z → c ≠ TO → c ≠ i1 → c ≠ i2 → s.heap.get? c = some o → g.get? c = some o) → Q none { s with heap := g }) : wpAny (model prog w) A (pyNext (.ref z)) Q E s := by
  have hT : s.TypeIs (.ref z) "zip" := ⟨_, Z.zp, rfl⟩
  unfold pyNext
  refine wpAny_bind (wpAny_attempt (wpAny_callSpecial?_slot (name := Str.ofString "__next__") hT F.slot_zip_next ?_))
  refine wpAny_call_entry F.slot_zip_next hT F.entry_zip_next (zg_end hh D N1 N2 Z h1 h2 en fun g e hk he => ?_) (F.args_zip_next_1 _)
  obtain ⟨o, ho, hc⟩ := he
  refine wpAny_bind (wpAny_isInstance (T := "StopIteration") (b := true) ⟨o, ho, hc⟩ isSubtype_stop ?_)
  exact wpAny_pure (q _ hk)
end
abbrev zm1 (h : Heap) (a : Addr) : Heap := h.push { cls := .type "tuple_iterator", data := .fields #[.ref a, .int 0 0] }
abbrev zm2 (h : Heap) (a b : Addr) : Heap := (zm1 h a).push { cls := .type "list_iterator", data := .fields #[.ref b, .int 0 0] }
abbrev zm3 (h : Heap) (a b : Addr) : Heap := (zm2 h a b).push { cls := .type "tuple", data := .seq #[.ref h.objs.size, .ref (zm1 h a).objs.size] }
abbrev zm4 (h : Heap) (a b : Addr) : Heap := (zm3 h a b).push { cls := .type "tuple", data := .seq #[.none, .none] }
abbrev zm5 (h : Heap) (a b : Addr) : Heap := (zm4 h a b).push { cls := .type "zip", data := .fields #[.none, .bool false, .bool false, .ref (zm2 h a b).objs.size, .ref (zm3 h a b).objs.size] }
theorem meets_zm (a b : Addr) (xs ys : Array Value) :
    Meets (Builtin.«zip.__new__» ⟨[.type "zip", .ref a, .ref b], []⟩) (fun _ R s => s.heap.IsTuple a xs ∧ s.heap.IsList b ys ∧ R (.ok (.ret (.ref (zm4 s.heap a b).objs.size))) { s with heap := zm5 s.heap a b }) :=
  .of_wp fun prog w A R s h => by
    obtain ⟨hp, g, d, tk, os⟩ := s; obtain ⟨m1, m2, h⟩ := h
    have hsub := sub_zip
    have hA : Heap.IsTuple (Shared.heap ⟨hp, g, d, tk, os⟩) a xs := m1
    have hB : Heap.IsList (Shared.heap ⟨hp.push { cls := .type "tuple_iterator", data := .fields #[.ref a, .int 0 0] }, g, d, tk, os⟩) b ys := Heap.IsList.push m2 _
    wp_walk using wpAny_pyIter_tuple hA, wpAny_pyIter_list hB
    exact ⟨_, rfl, h⟩
section
variable {prog : Program} {w : World} {A : Around} {E : Value → Shared → Prop} {s : Shared}
theorem call_zm {a b : Addr} {xs ys : Array Value} {Q : Value → Shared → Prop} (m1 : s.heap.IsTuple a xs) (m2 : s.heap.IsList b ys)
    (h : ∀ g, ZAt g (s.heap.objs.size + 4) (s.heap.objs.size + 2) (s.heap.objs.size + 3) s.heap.objs.size (s.heap.objs.size + 1) .none .none .none → g.IsTupleIter s.heap.objs.size a 0 → g.IsListIter (s.heap.objs.size + 1) b 0 →
      (∀ c o, s.heap.get? c = some o → g.get? c = some o) → Q (.ref (s.heap.objs.size + 4)) { s with heap := g }) :
    wpAny (model prog w) A (call (.type "zip") [.ref a, .ref b]) Q E s := by
  refine callType_new F.called_zip (by decide) (F.typeCall_zip_2 _ _) (F.newCall_zip_2 _ _) (fun obj => F.args_object_init_3 obj _ _) F.entry_zip_new (meets_zm a b xs ys) ⟨m1, m2, ?_⟩
  have n1 : (zm1 s.heap a).objs.size = s.heap.objs.size + 1 := Heap.size_push ..
  have n2 : (zm2 s.heap a b).objs.size = s.heap.objs.size + 2 := by rw [Heap.size_push, n1]
  have n3 : (zm3 s.heap a b).objs.size = s.heap.objs.size + 3 := by rw [Heap.size_push, n2]
  have n4 : (zm4 s.heap a b).objs.size = s.heap.objs.size + 4 := by rw [Heap.size_push, n3]
  have e5 : (zm5 s.heap a b).get? (zm4 s.heap a b).objs.size = some _ := Heap.get?_push_size _ rfl
  have e4 : (zm5 s.heap a b).get? (zm3 s.heap a b).objs.size = some _ := Heap.get?_push_of_some _ (Heap.get?_push_size _ rfl)
  have e3 : (zm5 s.heap a b).get? (zm2 s.heap a b).objs.size = some _ := Heap.get?_push_of_some _ (Heap.get?_push_of_some _ (Heap.get?_push_size _ rfl))
  have e2 : (zm5 s.heap a b).get? (zm1 s.heap a).objs.size = some _ := Heap.get?_push_of_some _ (Heap.get?_push_of_some _ (Heap.get?_push_of_some _ (Heap.get?_push_size _ rfl)))
  have e1 : (zm5 s.heap a b).get? s.heap.objs.size = some _ := Heap.get?_push_of_some _ (Heap.get?_push_of_some _ (Heap.get?_push_of_some _ (Heap.get?_push_of_some _ (Heap.get?_push_size _ rfl))))
  show _ ∧ _
  rw [n2, n3, n4] at e5
  rw [n1, n2] at e3
  rw [n3] at e4
  rw [n1] at e2
  rw [n4]
  exact ⟨⟨_, e5, rfl⟩, h _ ⟨e5, e3, e4⟩ ⟨_, e1, rfl, rfl⟩ ⟨_, e2, rfl, rfl⟩ fun c o e => Heap.get?_push_of_some _ (Heap.get?_push_of_some _ (Heap.get?_push_of_some _ (Heap.get?_push_of_some _ (Heap.get?_push_of_some _ e))))⟩
end
open PySem.Spec PyProof.Rows L2
/-- zip of the tuple at a and the list at b -/
def Itm (K : PySem.W.Frag) (a b : Addr) : It :=
  ⟨fun i H => ∃ (xs ys : List V) (x y : V), SqT K H a xs ∧ SqL K H b ys ∧ xs[i]? = some x ∧ ys[i]? = some y,
    fun i H v H' => ∃ T x y, v = .ref T ∧ H T = none ∧ H' = upd H T (.tup [x, y]) ∧ (∀ xs, SqT K H a xs → xs[i]? = some x) ∧ ∀ ys, SqL K H b ys → ys[i]? = some y,
    fun i H => ∃ xs ys : List V, SqT K H a xs ∧ SqL K H b ys ∧ (xs.length ≤ i ∨ ys.length ≤ i)⟩
theorem turn_zm {P : Program} {w : World} {K : PySem.W.Frag} {elts : List Expr} {kk : Nat} {tpos : Pos} {a b z TI TO i1 i2 : Addr} (D : ZipApart z TI TO i1 i2 a b) :
    Turn P w K (.Tuple elts kk tpos) (Itm K a b) [z, TI, TO, i1, i2] z (fun i h => (∃ x y, ZAt h z TI TO i1 i2 .none x y) ∧ h.IsTupleIter i1 a i ∧ h.IsListIter i2 b i) where
  mem := by simp
  obj := fun i h st c hc => by
    obtain ⟨⟨x, y, zp, ti, to⟩, ⟨o1, e1, _, d1⟩, ⟨o2, e2, _, d2⟩⟩ := st
    rcases (by simpa using hc : c = z ∨ c = TI ∨ c = TO ∨ c = i1 ∨ c = i2) with r | r | r | r | r
    · rw [r]; exact ⟨_, zp, fun v q => nomatch q⟩
    · rw [r]; exact ⟨_, ti, fun v q => nomatch q⟩
    · rw [r]; exact ⟨_, to, fun v q => nomatch q⟩
    · rw [r]; exact ⟨o1, e1, fun v q => by rw [d1] at q; cases q⟩
    · rw [r]; exact ⟨o2, e2, fun v q => by rw [d2] at q; cases q⟩
  keep := fun i h g st k => by
    obtain ⟨⟨x, y, zp, ti, to⟩, h1, h2⟩ := st
    exact ⟨⟨x, y, k z (by simp) _ zp, k TI (by simp) _ ti, k TO (by simp) _ to⟩, h1.at fun o q => k i1 (by simp) o q, h2.at fun o q => k i2 (by simp) o q⟩
  item := by
    intro X hP hw hK hc i pins s σ H E I hf st hg
    subst hP hw hK
    obtain ⟨⟨x0, y0, Z⟩, h1, h2⟩ := st
    obtain ⟨xs, ys, x, y, sx, sy, ex, ey⟩ := hg
    obtain ⟨its, rv, p, _⟩ := I.tuple sx
    obtain ⟨its2, rv2, p2, _⟩ := I.list sy
    obtain ⟨u, hu, ru⟩ := rv.get ex
    obtain ⟨u2, hu2, ru2⟩ := rv2.get ey
    have bz : z < s.heap.objs.size := Heap.lt_size Z.zp
    have b1 : i1 < s.heap.objs.size := by obtain ⟨_, e, _⟩ := h1; exact Heap.lt_size e
    have b2 : i2 < s.heap.objs.size := by obtain ⟨_, e, _⟩ := h2; exact Heap.lt_size e
    have ba : a < s.heap.objs.size := by obtain ⟨_, e, _⟩ := id p; exact Heap.lt_size e
    have hin : ∀ c ∈ [z, TI, TO, i1, i2], c < s.heap.objs.size := fun c hcm => by
      rcases (by simpa using hcm : c = z ∨ c = TI ∨ c = TO ∨ c = i1 ∨ c = i2) with r | r | r | r | r
      · rw [r]; exact bz
      · rw [r]; exact Heap.lt_size Z.ti
      · rw [r]; exact Heap.lt_size Z.to
      · rw [r]; exact b1
      · rw [r]; exact b2
    refine zg_nx D (nx_tup D.l1i1) (nx_lst D.l2i2) Z ⟨h1, p⟩ ⟨h2, p2.isList⟩ (x := u) (y := u2) (by simpa using hu) (by simpa using hu2) ⟨bz, ba, p2.lt, b1, b2⟩ fun g Z' t1 t2 hT hk => ?_
    refine ⟨_, rfl, wpAny_letOwnedTupleGo_zip (s := { s with heap := g }) Z'.zp fun g2 z2 sb => ?_⟩
    have hT2 : IsPair g2 s.heap.objs.size u u2 := (sb.2 _ (Nat.ne_of_gt bz)).trans hT
    have new : ObjOk X.prog X.w (upd H s.heap.objs.size (.tup [x, y])) g2 s.heap.objs.size (.tup [x, y]) := ⟨by show 2 ≤ sizeLine; decide, [u, u2], .cons ru (.cons ru2 .nil), ⟨_, hT2, rfl, _, rfl⟩⟩
    have old : ∀ c o, c ∉ [z, TI, TO, i1, i2] → s.heap.get? c = some o → g2.get? c = some o := fun c o hb q => by
      simp only [List.mem_cons, List.not_mem_nil, or_false, not_or] at hb
      exact (sb.2 c hb.1).trans (hk c o hb.1 hb.2.2.1 hb.2.2.2.1 hb.2.2.2.2 q)
    refine ⟨.ref s.heap.objs.size, _, I.turnedNew (t' := s.toks) (ch := [z, TI, TO, i1, i2]) old hf (Nat.le_refl _) new, rfl, ⟨_, x, y, rfl, I.hok.fresh (Nat.le_refl _), rfl, fun l hl => ?_, fun l hl => ?_⟩, ⟨⟨u, u2, z2, (sb.2 _ D.TIz).trans Z'.ti, (sb.2 _ D.TOz).trans Z'.to⟩, ?_, ?_⟩, fun c hcm => ?_⟩
    · rw [I.tuple_inj hl sx]; exact ex
    · rw [I.list_inj hl sy]; exact ey
    · exact t1.1.at fun o q => (sb.2 _ D.i1z).trans q
    · exact t2.1.at fun o q => (sb.2 _ D.i2z).trans q
    · rw [upd_ne (Nat.ne_of_lt (hin c hcm))]
      exact (hf c hcm).1
  done := by
    intro X hP hw hK hc i pins s σ H E I hf st hg
    subst hP hw hK
    obtain ⟨⟨x0, y0, Z⟩, h1, h2⟩ := st
    obtain ⟨xs, ys, sx, sy, en⟩ := hg
    obtain ⟨its, rv, p, _⟩ := I.tuple sx
    obtain ⟨its2, rv2, p2, _⟩ := I.list sy
    have l1 := rv.length
    have l2 := rv2.length
    have he : its.toArray[i]? = none ∨ its2.toArray[i]? = none := en.imp (fun q => by simp; omega) (fun q => by simp; omega)
    refine zg_stop (I.ok.hd hc) D (nx_tup D.l1i1) (nx_lst D.l2i2) Z ⟨h1, p⟩ ⟨h2, p2.isList⟩ he fun g hk => ⟨rfl, I.turnedL (t' := s.toks) (ch := [z, TI, TO, i1, i2]) (fun c o hb q => ?_) hf⟩
    simp only [List.mem_cons, List.not_mem_nil, or_false, not_or] at hb
    exact hk c o hb.1 hb.2.2.1 hb.2.2.2.1 hb.2.2.2.2 q
  self := fun A i s Q E st h => by
    obtain ⟨⟨_, _, Z⟩, _⟩ := st
    exact wpAny_pyIter_zip Z.zp h
def iZm (K : PySem.W.Frag) (ta : TA) : L2.TI := fun σ H R => ta σ H fun vs H1 => ∃ a b xs ys, vs = [.ref a, .ref b] ∧ SqT K H1 a xs ∧ SqL K H1 b ys ∧ R (Itm K a b) H1
theorem pi_zm {X : Cx} {e e2 : Expr} {ta : TA} {p pos tpos : Pos} {elts : List Expr} {kk : Nat} (hg : Gl X "zip") (hm : X.mg "zip" = none) (ha : PA X [e, e2] ta)
    (hs : starEach [e, e2] X.env = (false, eval e X.env) :: starEach [e2] X.env := by rfl) (hpl : (backTo pos (starEach [e2] X.env)).any (·.1) = false := by rfl) : PI X (.Tuple elts kk tpos) (.Call (.Name "zip" p) [e, e2] [] pos) (iZm X.K ta) := by
  refine ⟨fun pins s σ H R I h => Call_ (ld_blt I hg hm PyProof.Rows.boot_zip (PyProof.Rows.callWith_type1 (thn (ha.run pos pins s σ H _ I h) fun us s1 hh => ?_) hs hpl))⟩
  obtain ⟨vs, H1, I1, r1, a, b, xs, ys, rfl, sx, sy, q⟩ := hh
  match us, r1 with
  | [_, _], .cons r (.cons r' .nil) =>
    cases r
    cases r'
    obtain ⟨its, rv, p1, _⟩ := I1.tuple sx
    obtain ⟨its2, rv2, p2, _⟩ := I1.list sy
    have la : a < s1.heap.objs.size := by obtain ⟨_, e, _⟩ := id p1; exact Heap.lt_size e
    refine call_zm (show s1.heap.IsTuple a its.toArray from p1) p2.isList fun g Z t1 t2 hk => wpAny_pyIter_zip Z.zp ?_
    have I2 : Inv X pins σ H1 { s1 with heap := g } := I1.kept (t' := s1.toks) hk
    refine ⟨s1.heap.objs.size + 4, [s1.heap.objs.size + 4, s1.heap.objs.size + 2, s1.heap.objs.size + 3, s1.heap.objs.size, s1.heap.objs.size + 1], _, _, H1, rfl, I2, turn_zm (PySem.W.ktu_apart s1.heap.objs.size a b la p2.lt), ⟨⟨_, _, Z⟩, t1, t2⟩, fun c hcm => ?_, q⟩
    have hle : s1.heap.objs.size ≤ c := by
      simp only [List.mem_cons, List.not_mem_nil, or_false] at hcm
      rcases hcm with r | r | r | r | r
      · rw [r]; exact Nat.le_add_right _ _
      · rw [r]; exact Nat.le_add_right _ _
      · rw [r]; exact Nat.le_add_right _ _
      · rw [r]; exact Nat.le_refl _
      · rw [r]; exact Nat.le_add_right _ _
    exact I1.fpOk hle (I1.hok.fresh hle)
section
variable {K : PySem.W.Frag} {a b : Addr} {xs ys : List V}
theorem walk_zm {n : Nat} (h1 : xs.length = n) (h2 : ys.length = n) : Walk (Itm K a b) n (fun H => SqT K H a xs ∧ SqL K H b ys) (YPair (fun i => xs[i]?) (fun i => ys[i]?)) := by
  refine ⟨fun i _ hi q => ⟨xs, ys, xs[i], ys[i], q.1, q.2, by simp [h1, hi], by simp [h2, hi]⟩, fun _ q => ⟨xs, ys, q.1, q.2, by omega⟩, fun i H v H' _ q y => ?_⟩
  obtain ⟨T, x, z, r1, r2, r3, r4, r5⟩ := y
  exact ⟨T, x, z, r1, r2, r3, r4 xs q.1, r5 ys q.2⟩
end
end FR
set_option Elab.async false
set_option linter.all false
set_option maxRecDepth 100000
/-! a, b, *c = a tuple -/
namespace FR
open PySem PySem.Spec PySem.Calls PyProof.Rows L2
section
variable {prog : Program} {w : World} {A : Around} {E : Value → Shared → Prop} {s : Shared}
open PySem.W in
theorem un_star {l : Addr} {items : Array Value} {n i : Nat} {Q : List Value → Shared → Prop} (hl : IsTup s.heap l items) (hh : A.handled = none) (hi : i < n) (hn : n ≤ items.size + 1) (hz : items.size ≤ 16384)
    (q : ∀ (g : Heap) (tk : Nat), (∀ b o, s.heap.get? b = some o → g.get? b = some o) →
      Q (items.toList.take i ++ [.ref g.objs.size] ++ (items.toList.drop i).drop (items.size + 1 - n)) { s with heap := g.push { cls := .type "list", data := .seq ((items.toList.drop i).take (items.size + 1 - n)).toArray }, toks := tk }) : wpAny (model prog w) A (unpackItems (.ref l) n (some i)) Q E s := by
  have bl : l < s.heap.objs.size := by obtain ⟨o, ho, _⟩ := id hl; exact Heap.lt_size ho
  have nl : l ≠ s.heap.objs.size := Nat.ne_of_lt bl
  unfold unpackItems; refine wpAny_bind ?_
  unfold notIterableAtAll; refine wpAny_bind (wpAny_specialOf hl.typeIs slot_tuple_iter.lookup ?_)
  refine wpAny_pure ?_; simp only [Bool.false_eq_true, if_false]
  refine wpAny_bind (wpAny_holding (iter_tuple hl ?_)); refine wpAny_bind (wpAny_holding (draw_tuple nl i 0 _ _ ⟨_, Heap.get?_push_size _ rfl, rfl, rfl⟩ (hl.push _) (by omega) fun g1 t1 s1 => ?_))
  have hl1 : IsTup g1 l items := (hl.push _).extBut s1.extBut nl
  rw [Nat.zero_add] at t1
  obtain ⟨oi, hoi, _⟩ := id t1
  obtain ⟨ol, hol, _⟩ := id hl1
  rw [List.drop_zero]
  have e1 : (items.toList.take i).length = i := by rw [List.length_take, Array.length_toList]; omega
  have e2 : (items.toList.drop i).length = items.size - i := by rw [List.length_drop, Array.length_toList]
  have e3 : (items.toList.drop i).length - (n - 1 - i) = items.size + 1 - n := by rw [e2]; omega
  rw [if_neg (show ¬ ((items.toList.take i).length < i) by omega)]
  have hW := Walks.tuple (prog := prog) (w := w) (A := A.in1) hh s.heap.objs.size l nl items
  refine wpAny_bind (wpAny_holding (kun_collect (s := { s with heap := g1 }) (T := "tuple_iterator") (.inr (.inr (.inr rfl))) hW (fun j u st => st.1.typeIs) (k := i) (by omega) ⟨t1, hl1⟩ (Heap.lt_size hoi) (Heap.lt_size hol) (fun g2 tk hk => ?_) (by rw [sizeLine_eq]; omega)))
  show wpAny _ _ (if (items.toList.drop i).length < n - 1 - i then _ else _) _ _ _; rw [if_neg (by rw [e2]; omega)]
  show wpAny _ _ (newList ((items.toList.drop i).take ((items.toList.drop i).length - (n - 1 - i))) >>= fun d => pure (items.toList.take i ++ [d] ++ (items.toList.drop i).drop ((items.toList.drop i).length - (n - 1 - i)))) _ _ _
  rw [e3]
  have hx : ∀ b o, s.heap.get? b = some o → g2.get? b = some o := fun b o e => hk b o (Nat.ne_of_lt (Heap.lt_size e)) (s1.extBut b o (Nat.ne_of_lt (Heap.lt_size e)) (Heap.get?_push_of_some _ e))
  refine wpAny_bind (wpAny_newList (wpAny_pure (q g2 tk hx)) ?_)
  rw [List.length_take, e2, sizeLine_eq]; omega
end
section
variable {X : Cx} {pos : Pos}
def gUnS (K : PySem.W.Frag) (n i : Nat) (t : TGs) : TG := fun v σ H Q => ∃ a xs, v = .ref a ∧ SqT K H a xs ∧ n ≤ xs.length + 1 ∧ xs.length ≤ 16384 ∧
  NewO (.lst ((xs.drop i).take (xs.length + 1 - n))) (fun d H' => t (xs.take i ++ [d] ++ (xs.drop i).drop (xs.length + 1 - n)) σ H' Q) H
theorem pg_unS {es : List Expr} {k : Nat} {t : TGs} {n i : Nat} (hc : X.calm = true) (h : PGs X es t)
    (hn : (assignEach es X.env).length = n := by rfl) (hst : (assignEach es X.env).findIdx? (·.1) = some i := by rfl) (hi : i < n := by decide) : PG X (.Tuple es k pos) (gUnS X.K n i t) := by
  refine ⟨fun pins s σ H v u Q I r hw => ?_⟩
  obtain ⟨a, xs, rfl, hq, hln, hz, hw⟩ := hw
  cases r
  obtain ⟨its, rv, ht, _⟩ := I.tuple hq
  have el := rv.length
  rw [assign_Tuple]
  refine wpAny_bind (wpAny_standAt ?_)
  unfold unpack
  rw [hn, hst]
  refine wpAny_bind (wpAny_holding (un_star (items := its.toArray) ht (I.ok.hd hc) hi (by simpa [← el] using hln) (by simpa [← el] using hz) fun g tk hk => ?_))
  have esz : its.toArray.size + 1 - n = xs.length + 1 - n := by simp [el]
  rw [esz]
  have rm : Vals ((xs.drop i).take (xs.length + 1 - n)) ((its.drop i).take (xs.length + 1 - n)) := (rv.drop i).take _
  have sm : ((xs.drop i).take (xs.length + 1 - n)).length ≤ sizeLine := by
    have : ((xs.drop i).take (xs.length + 1 - n)).length ≤ xs.length := by rw [List.length_take, List.length_drop]; omega
    exact Nat.le_trans this (Nat.le_trans hz (by rw [sizeLine_eq]; omega))
  have I0 : Inv X pins σ H { s with heap := g, toks := tk } := I.kept (t' := tk) hk
  have hf : H g.objs.size = none := I0.hok.fresh (Nat.le_refl _)
  have I1 := I0.laid (t' := tk) (o := .lst ((xs.drop i).take (xs.length + 1 - n))) (fun b o e => Heap.get?_push_of_some _ e) (Nat.le_refl _) ⟨sm, (its.drop i).take (xs.length + 1 - n), 0, rm, by simpa using Heap.get?_push_size _ rfl⟩
  exact h.run pins _ σ _ _ _ Q I1 (((rv.take i).append (.cons (show RelV (.ref g.objs.size) (.ref g.objs.size) from rfl) .nil)).append ((rv.drop i).drop _)) (hw.to g.objs.size _ hf (keep_new hf) upd_same)
theorem pgs_star {e : Expr} {p : Pos} {es : List Expr} {t : TG} {u : TGs} (h1 : PG X e t) (h2 : PGs X es u)
    (hs : (assignEach (.Starred e p :: es) X.env).map (·.2) = assign e X.env :: (assignEach es X.env).map (·.2) := by rfl) : PGs X (.Starred e p :: es) (gCons t u) := by
  refine ⟨fun pins s σ H vs us Q I r h => ?_⟩
  obtain ⟨v, vr, rfl, h⟩ := h
  cases r with
  | cons r rr =>
    rw [hs]
    exact assignInOrder_cons (thn (h1.run pins s σ H _ _ _ I r h) fun _ s1 ⟨σ1, H1, I1, q1⟩ => h2.run pins s1 σ1 H1 _ _ Q I1 rr q1)
end
end FR
set_option Elab.async false
set_option linter.all false
set_option maxRecDepth 100000
/-! list(d.values()), list(d.items()) -/
namespace FR
open PySem PySem.Spec PySem.Calls PyProof.Rows L2 L2.DX
open PySem.W (kdl_call kdl_values kdl_vals_eq dil_call DilG)
/-- the view d.values() at p -/
def valuesO (p d : Addr) : HO := .ext fun h => h.IsValuesView p d
theorem valuesO_ok {P : Program} {w : World} {H : Hp} {h : Heap} {p d : Addr} (e : h.get? p = some { cls := .type "dict_values", data := .fields #[.ref d] }) : ObjOk P w H h p (valuesO p d) :=
  ⟨⟨_, e, rfl, rfl⟩, ⟨_, e⟩, fun h1 h2 x k => let ⟨o, ho, r⟩ := x; ⟨o, k o ho, r⟩⟩
theorem KV.seconds {κ : Type} {kvs : List (κ × V)} {vs : List (κ × Value)} (r : KV kvs vs) : Vals (kvs.map (·.2)) (vs.map (·.2)) := by
  unfold KV at r
  induction r with
  | nil => exact .nil
  | cons h t ih => exact .cons h.2 ih
section
variable {X : Cx}
def rValsK : V → List V → Hp → VK → Prop := fun x xs H Q => ∃ (a : Addr) (kvs : List (L2.Key × V)), x = .ref a ∧ xs = [] ∧ H a = some (.dK kvs) ∧ ∀ p, H p = none → Q (.ref p) (upd H p (valuesO p a))
theorem mt_valuesK : MtR X "dict.values" rValsK := by
  intro pins s σ H x xs v us Q I rx rxs h
  obtain ⟨a, kvs, rfl, rfl, ha, q⟩ := h
  cases rx
  cases rxs
  obtain ⟨z, hd, vs, rel, dd⟩ := dk_of I.hok ha
  have hf : H s.heap.objs.size = none := I.hok.fresh (Nat.le_refl _)
  exact call_meetsIn PySem.F.slot_dict_values dd.typeIs PySem.F.entry_dict_values (PySem.F.args_dict_values_1 _) (meets_dict_values (mixKind X.prog X.w) a hd)
    ⟨⟨vs, dd⟩, ⟨.ref s.heap.objs.size, upd H s.heap.objs.size (valuesO s.heap.objs.size a), I.laid (t' := s.toks) (fun b u e => Heap.get?_push_of_some _ e) (Nat.le_refl _) (valuesO_ok (Heap.get?_push_size _ rfl)), rfl, q _ hf⟩⟩
def rItemsK : V → List V → Hp → VK → Prop := fun x xs H Q => ∃ (a : Addr) (kvs : List (L2.Key × V)), x = .ref a ∧ xs = [] ∧ H a = some (.dK kvs) ∧ ∀ p, H p = none → Q (.ref p) (upd H p (itemsO p a))
theorem mt_itemsK : MtR X "dict.items" rItemsK := by
  intro pins s σ H x xs v us Q I rx rxs h
  obtain ⟨a, kvs, rfl, rfl, ha, q⟩ := h
  cases rx
  cases rxs
  obtain ⟨z, hd, vs, rel, dd⟩ := dk_of I.hok ha
  have hf : H s.heap.objs.size = none := I.hok.fresh (Nat.le_refl _)
  exact call_meetsIn PySem.F.slot_dict_items dd.typeIs PySem.F.entry_dict_items (PySem.F.args_dict_items_1 _) (meets_dict_items (mixKind X.prog X.w) a hd)
    ⟨⟨vs, dd⟩, ⟨.ref s.heap.objs.size, upd H s.heap.objs.size (itemsO s.heap.objs.size a), I.laid (t' := s.toks) (fun b u e => Heap.get?_push_of_some _ e) (Nat.le_refl _) (itemsO_ok (Heap.get?_push_size _ rfl)), rfl, q _ hf⟩⟩
def rLVals : List V → Hp → VK → Prop := fun xs H Q => ∃ (p a : Addr) (kvs : List (L2.Key × V)), xs = [.ref p] ∧ H p = some (valuesO p a) ∧ H a = some (.dK kvs) ∧ NewO (.lst (kvs.map (·.2))) Q H
theorem call_lVals (hc : X.calm = true) : CallR X (.type "list") rLVals := by
  intro pins s σ H xs us Q I r h
  obtain ⟨p, a, kvs, rfl, hp, ha, q⟩ := h
  obtain rfl := Vals.ref1 r
  have view : s.heap.IsValuesView p a := (show ObjOk X.prog X.w H s.heap p (valuesO p a) from I.hok p _ hp).1
  obtain ⟨z, hd, vs, rel, dd⟩ := dk_of I.hok ha
  obtain ⟨ep, hat⟩ := dd.dictAt
  have hl : kvs.length = vs.length := Paired.length rel
  refine kdl_call (kdl_values (knd := mixKind X.prog X.w) (kvs := vs) (ep := ep)) (I.ok.hd hc) ⟨view, hat⟩ (by omega) fun h' tk acc c hk hS hacc => ?_
  have ev : acc.toList = vs.map (·.2) := kdl_vals_eq acc.toList (by rw [Array.length_toList]; exact hacc.1) fun j u hu => hacc.2 j u (by rw [← Array.getElem?_toList]; exact hu)
  have hf : H s.heap.objs.size = none := I.hok.fresh (Nat.le_refl _)
  have ok : ObjOk X.prog X.w (upd H s.heap.objs.size (.lst (kvs.map (·.2)))) h' s.heap.objs.size (.lst (kvs.map (·.2))) := ⟨by rw [List.length_map]; exact z, vs.map (·.2), c, KV.seconds rel, by rw [hS, ← ev]⟩
  exact ⟨.ref s.heap.objs.size, _, I.laid (t' := tk) hk (Nat.le_refl _) ok, rfl, q.to _ _ hf (keep_new hf) upd_same⟩
def rLItems : List V → Hp → VK → Prop := fun xs H Q => ∃ (p a : Addr) (kvs : List (L2.Key × V)), xs = [.ref p] ∧ H p = some (itemsO p a) ∧ H a = some (.dK kvs) ∧
  ∀ (H' : Hp) (l : Addr) (ps : List Addr), H l = none → Keep [] H H' → H' l = some (.lst (ps.map V.ref)) → Paired (fun p kv => H p = none ∧ H' p = some (.tup [kV kv.1, kv.2])) ps kvs → Q (.ref l) H'
theorem paired_of {α β : Type} {R : α → β → Prop} : ∀ {xs : List α} {ys : List β}, xs.length = ys.length → (∀ (j : Nat) (x : α) (y : β), xs[j]? = some x → ys[j]? = some y → R x y) → Paired R xs ys
  | [], [], _, _ => .nil
  | x :: xs, y :: ys, hl, h => .cons (h 0 x y rfl rfl) (paired_of (by simpa using hl) fun j a b ha hb => h (j + 1) a b (by simpa using ha) (by simpa using hb))
  | [], _ :: _, hl, _ => by simp at hl
  | _ :: _, [], hl, _ => by simp at hl
theorem paired_get {α β : Type} {R : α → β → Prop} {xs : List α} {ys : List β} (r : Paired R xs ys) : ∀ {j : Nat} {y : β}, ys[j]? = some y → ∃ x, xs[j]? = some x ∧ R x y := by
  induction r with
  | nil => intro j y h; simp at h
  | @cons a b as bs h t ih =>
    intro j y hy
    cases j with
    | zero => exact ⟨a, rfl, by simp at hy; subst hy; exact h⟩
    | succ j => exact ih (by simpa using hy)
theorem call_lItems (hc : X.calm = true) : CallR X (.type "list") rLItems := by
  intro pins s σ H xs us Q I r h
  obtain ⟨p, a, kvs, rfl, hp, ha, q⟩ := h
  obtain rfl := Vals.ref1 r
  have view : s.heap.IsItemsView p a := (show ObjOk X.prog X.w H s.heap p (itemsO p a) from I.hok p _ hp).1
  obtain ⟨z, hd, vs, rel, dd⟩ := dk_of I.hok ha
  have hl : kvs.length = vs.length := Paired.length rel
  obtain ⟨es, ep, raw, esz, ent⟩ := dd.raw
  refine dil_call (I.ok.hd hc) view raw (by omega) fun h' tk acc c as hk hS hal hG hacc => ?_
  have hf : H s.heap.objs.size = none := I.hok.fresh (Nat.le_refl _)
  have nd : as.Nodup := List.Pairwise.imp (fun h => Nat.ne_of_lt h) hG.rise
  have ok : ObjOk X.prog X.w (upd H s.heap.objs.size (.lst (as.map V.ref))) h' s.heap.objs.size (.lst (as.map V.ref)) :=
    ⟨by rw [List.length_map]; omega, as.map Value.ref, c, vals_maps V.ref Value.ref as fun _ _ => rfl, by rw [hS, ← hacc]⟩
  have I2 := I.laid (t' := tk) hk (Nat.le_refl _) ok
  have pr : ∀ (j : Nat) (b : Addr), as[j]? = some b → ∃ kv u1 u2, kvs[j]? = some kv ∧ RelV (kV kv.1) u1 ∧ RelV kv.2 u2 ∧ h'.get? b = some { cls := .type "tuple", data := .seq #[u1, u2] } := by
    intro j b hj
    obtain ⟨hj', e⟩ := hG.pairs j b hj
    have hlt : j < vs.length := by omega
    have hv : vs[j]? = some vs[j] := List.getElem?_eq_getElem hlt
    obtain ⟨kv, ek, r1, r2⟩ := paired_get rel hv
    obtain ⟨e1, e2⟩ := ent j hj' vs[j].1 vs[j].2 hv
    exact ⟨kv, _, _, ek, by rw [r1]; exact relV_key e1, by rw [e2]; exact r2, e⟩
  obtain ⟨H2, I3, g, qt⟩ := takeT (P := fun b ws => ∃ (j : Nat) (kv : L2.Key × V), as[j]? = some b ∧ kvs[j]? = some kv ∧ ws = [kV kv.1, kv.2]) I as _ I2 nd fun b hb => by
    obtain ⟨j, hj⟩ := List.mem_iff_getElem?.mp hb
    obtain ⟨kv, u1, u2, ek, r1, r2, hg⟩ := pr j b hj
    have hbl : s.heap.objs.size < b := hG.above b hb
    refine ⟨Nat.le_of_lt hbl, by rw [upd_ne (Nat.ne_of_gt hbl)]; exact I.hok.fresh (Nat.le_of_lt hbl), [kV kv.1, kv.2], ⟨j, kv, hj, ek, rfl⟩, fun H3 => ⟨(by rw [sizeLine_eq]; show 2 ≤ 16777216; omega), [u1, u2], .cons r1 (.cons r2 .nil), ⟨_, hg, rfl, 0, rfl⟩⟩⟩
  refine ⟨.ref s.heap.objs.size, H2, I3, rfl, q H2 s.heap.objs.size as hf (fun b o e _ => g b o (by rw [upd_ne (ne_of_none e hf)]; exact e)) (g _ _ upd_same) (paired_of (by omega) fun j b kv hj ek => ?_)⟩
  have hbm := List.mem_of_getElem? hj
  obtain ⟨ws, ⟨i, kv', hi, ek', rfl⟩, hH⟩ := qt b hbm
  have eij : i = j := (List.getElem?_inj (List.getElem?_eq_some_iff.mp hi).1 nd).mp (hi.trans hj.symm)
  subst eij
  rw [ek] at ek'
  cases ek'
  exact ⟨I.hok.fresh (Nat.le_of_lt (hG.above b hbm)), hH⟩
end
end FR
set_option Elab.async false
set_option linter.all false
set_option maxRecDepth 100000
/-! enumerate(text) -/
namespace FR
open PySem PySem.Spec PyProof.Rows L2
/-- the signs of a text, each with its place, in new pairs -/
def IteS (z : Str) : It :=
  ⟨fun i _ => i < z.cps.size, fun i H v H' => ∃ T c, v = .ref T ∧ H T = none ∧ H' = upd H T (.tup [.int (i : Nat), .str ⟨#[c]⟩]) ∧ z.cps[i]? = some c, fun i _ => i = z.cps.size⟩
theorem draws_str {prog : Program} {w : World} {A : Around} (hh : A.handled = none) (it : Addr) (x : Str) (t : Tok) :
    Draws prog w A it [it] x.cps.size (fun i v => ∃ c u, x.cps[i]? = some c ∧ v = .str ⟨#[c]⟩ u) (fun i h => h.IsStrIter it (strIterType x) x t i) := by
  rcases (show strIterType x = "str_ascii_iterator" ∨ strIterType x = "str_iterator" by unfold strIterType; split; exact .inl rfl; exact .inr rfl) with e | e
  · rw [e]; exact Draws.strAscii hh it x t
  · rw [e]; exact Draws.strWide hh it x t
theorem turn_enumS {P : Program} {w : World} {K : PySem.W.Frag} {elts : List Expr} {kk : Nat} {tpos : Pos} (z : Str) (t : Tok) (e it : Addr) :
    Turn P w K (.Tuple elts kk tpos) (IteS z) [e, it] e (fun i h => (∃ old, IsEnum h e it ((i : Nat) : Int) old) ∧ h.IsStrIter it (strIterType z) z t i ∧ e ≠ it) where
  mem := by simp
  obj := fun i h st b hb => by
    obtain ⟨⟨old, he⟩, ⟨o, ho, hc, hd⟩, _⟩ := st
    rcases (by simpa using hb : b = e ∨ b = it) with r | r
    · rw [r]; exact ⟨_, he, fun v q => nomatch q⟩
    · rw [r]; exact ⟨o, ho, fun v q => by rw [hd] at q; cases q⟩
  keep := fun i h g st k => by
    obtain ⟨⟨old, he⟩, ⟨o, ho, r⟩, hne⟩ := st
    exact ⟨⟨old, k e (by simp) _ he⟩, ⟨o, k it (by simp) o ho, r⟩, hne⟩
  item := by
    intro X hP hw hK hc i pins s σ H E I hf st hg
    subst hP hw hK
    obtain ⟨⟨old, he⟩, hit, hne⟩ := st
    have hel : e < s.heap.objs.size := Heap.lt_size he
    have hil : it < s.heap.objs.size := by obtain ⟨_, q, _⟩ := id hit; exact Heap.lt_size q
    have D := draws_str (prog := X.prog) (w := X.w) (A := X.A.in1) (show X.A.in1.handled = none from I.ok.hd hc) it z t
    refine wpAny_pyNext_enum_itemD D he hit hg hne (by simpa using hne) fun x g tk px ho hit' hT hsz hk => ?_
    obtain ⟨c, u, ec, rfl⟩ := px
    refine ⟨_, rfl, wpAny_letOwnedTupleGo_enum (s := { s with heap := g, toks := tk + 1 }) ho fun g2 he' sb => ?_⟩
    have hT2 : g2.get? s.heap.objs.size = some { cls := .type "tuple", data := .seq #[.int i tk, .str ⟨#[c]⟩ u] } := (sb.2 _ (Nat.ne_of_gt hel)).trans hT
    have new : ObjOk X.prog X.w (upd H s.heap.objs.size (.tup [.int (i : Nat), .str ⟨#[c]⟩])) g2 s.heap.objs.size (.tup [.int (i : Nat), .str ⟨#[c]⟩]) :=
      ⟨by show 2 ≤ sizeLine; decide, [.int i tk, .str ⟨#[c]⟩ u], .cons ⟨_, rfl⟩ (.cons ⟨_, rfl⟩ .nil), ⟨_, hT2, rfl, _, rfl⟩⟩
    have I1 : Inv X pins σ (upd H s.heap.objs.size (.tup [.int (i : Nat), .str ⟨#[c]⟩])) { s with heap := g2, toks := tk + 1 } :=
      I.turnedNew (ch := [e, it]) (fun b ob hb q => (sb.2 b (fun r => hb (by simp [r]))).trans (hk b ob (fun r => hb (by simp [r])) (fun r => hb (by simp [r])) q)) hf (Nat.le_refl _) new
    refine ⟨.ref s.heap.objs.size, _, I1, rfl, ⟨_, c, rfl, I.hok.fresh (Nat.le_refl _), rfl, ec⟩, ⟨⟨Value.str ⟨#[c]⟩ u, ?_⟩, ?_, hne⟩, fun b hb => ?_⟩
    · rw [show ((i + 1 : Nat) : Int) = (i : Int) + 1 by omega]; exact he'
    · obtain ⟨o, eo, r⟩ := hit'
      exact ⟨o, (sb.2 it (Ne.symm hne)).trans eo, r⟩
    · have hb' : b < s.heap.objs.size := by
        rcases (by simpa using hb : b = e ∨ b = it) with r | r
        · rw [r]; exact hel
        · rw [r]; exact hil
      rw [upd_ne (Nat.ne_of_lt hb')]
      exact (hf b hb).1
  done := by
    intro X hP hw hK hc i pins s σ H E I hf st hg
    subst hP hw hK
    obtain ⟨⟨old, he⟩, hit, hne⟩ := st
    obtain ⟨f0, f1, f2, f3, f4, f5⟩ := hf it (by simp)
    have D := draws_str (prog := X.prog) (w := X.w) (A := X.A.in1) (show X.A.in1.handled = none from I.ok.hd hc) it z t
    have ei : i = z.cps.size := hg
    subst ei
    refine wpAny_pyNext_enum_endD D he hit fun g eb => ⟨rfl, I.turned (t' := s.toks) (fun b o hb q => eb b o hb q) f0 f1 f3 f4 f5⟩
  self := fun A i s Q E st h => let ⟨⟨_, he⟩, _⟩ := st; wpAny_pyIter_enum he h
def iEnumS (ta : TA) : TI := fun σ H R => ta σ H fun vs H1 => ∃ z, vs = [.str z] ∧ R (IteS z) H1
theorem pi_enumS {X : Cx} {e : Expr} {ta : TA} {p pos tpos : Pos} {elts : List Expr} {kk : Nat} (hg : Gl X "enumerate") (hm : X.mg "enumerate" = none) (ha : PA X [e] ta) (hs : starEach [e] X.env = [(false, eval e X.env)] := by rfl) :
    PI X (.Tuple elts kk tpos) (.Call (.Name "enumerate" p) [e] [] pos) (iEnumS ta) := by
  refine ⟨fun pins s σ H R I h => Call_ (ld_blt I hg hm boot_enumerate (PyProof.Rows.callWith_type1 (thn (ha.run pos pins s σ H _ I h) fun us s1 hh => ?_) hs rfl))⟩
  obtain ⟨vs, H1, I1, r1, z, rfl, q⟩ := hh
  obtain ⟨u, rfl, ru⟩ := r1.one
  obtain ⟨t, rfl⟩ := ru
  refine call_enumerate_str fun g he hit hsz hk => wpAny_pyIter_enum he ?_
  have I2 : Inv X pins σ H1 { s1 with heap := g } := I1.kept (t' := s1.toks) hk
  refine ⟨s1.heap.objs.size + 1, [s1.heap.objs.size + 1, s1.heap.objs.size], _, _, H1, rfl, I2, turn_enumS z t (s1.heap.objs.size + 1) s1.heap.objs.size, ⟨⟨.none, he⟩, hit, Nat.succ_ne_self _⟩, fun b hb => ?_, q⟩
  have hle : s1.heap.objs.size ≤ b := by
    rcases (by simpa using hb : b = s1.heap.objs.size + 1 ∨ b = s1.heap.objs.size) with r | r
    · rw [r]; exact Nat.le_add_right _ _
    · rw [r]; exact Nat.le_refl _
  exact I1.fpOk hle (I1.hok.fresh hle)
theorem walk_enumS {z : Str} : Walk (IteS z) z.cps.size (fun _ => True) (YPair (fun i => some (.int (i : Nat))) (fun i => z.cps[i]?.map fun c => .str ⟨#[c]⟩)) :=
  ⟨fun _ _ hi _ => hi, fun _ _ => rfl, fun i H v H' _ _ y => by
    obtain ⟨T, c, r1, r2, r3, r4⟩ := y
    exact ⟨T, .int (i : Nat), .str ⟨#[c]⟩, r1, r2, r3, rfl, by show (z.cps[i]?).map _ = _; rw [r4]; rfl⟩⟩
end FR
set_option Elab.async false
set_option linter.all false
set_option maxRecDepth 100000
/-! a new dict that is walked -/
namespace FR
open PySem PySem.Spec PyProof.Rows L2
def tFrz (t : TE) : TE := fun σ H Q => t σ H fun x H1 => ∃ (d : Addr) (u : HO), x = .ref d ∧ H1 d = some u ∧ Mut (some u) ∧ ∀ od, Q x (upd H1 d (.frz od u))
theorem pe_frz {X : Cx} {e : Expr} {t : TE} (h : PE X e t) : PE X e (tFrz t) := ⟨fun pins s σ H Q I hq => thn (h.run pins s σ H _ I hq) fun v s1 hh => by
  obtain ⟨x, H1, I1, r, d, u, ex, hd, mu, q⟩ := hh
  obtain ⟨od, I2⟩ := I1.lock hd mu
  exact ⟨x, _, I2, r, q od⟩⟩
theorem pe_nev {X : Cx} {e : Expr} : PE X e (fun _ _ _ => False) := ⟨fun _ _ _ _ _ _ h => h.elim⟩
def rNotKd (K : PySem.W.Frag) (d : Addr) : R2 := fun x y H Q => ∃ (z : Str) (r : Option Value), x = .str z ∧ y = .ref d ∧ PySem.W.nsIn K d z = some r ∧ Q (.bl (!r.isSome)) H
theorem op_notKd {X : Cx} {K : PySem.W.Frag} {w : World} {d : Addr} (hk : X.K = K) (hw : X.w = w) (D : ∃ es n, KDict K w d es n) : OpR X (compareOp .NotIn) (rNotKd K d) := by
  subst hk hw
  obtain ⟨es, n, D⟩ := D
  exact op_notIn_kd D
theorem ix_tupK {X : Cx} {K : PySem.W.Frag} (h : X.K = K) : IxR X (rIxT K) := h ▸ ix_tup
/-- what no call reaches -/
theorem never_elim {P : Prop} (h : False) : P := h.elim
end FR
set_option Elab.async false
set_option linter.all false
set_option maxRecDepth 100000
set_option maxHeartbeats 4000000
/-! sets of texts: set(texts), its len, sorted(set) -/
namespace FR
open PySem PySem.Spec PyProof.Rows PySem.Froz
/-- the texts that were met, each once -/
def once (l : List Str) (xs : List Str) : List Str := xs.foldl (fun l x => if x ∈ l then l else x :: l) l
/-- a payload that holds these texts and that can be walked -/
structure Sx (P : Program) (w : World) (D : SD) (l : List Str) : Prop where
  tx : TxOk P w D l
  ris : L2.Ris D.2.2.place.toList
  led : w.params.followText "set-order" = true ∨ D.2.2.led = true
  nd : l.Nodup
section
variable {P : Program} {w : World} {A : Around} {E : Value → Shared → Prop}
theorem Sx.add {D : SD} {l : List Str} {k : Str} (u : Tok) (F : Sx P w D l) (m : k ∉ l) : Sx P w (addTx (hashStr w k) (.str k u) D) (k :: l) := by
  have r1 := L2.layNew_ris D.2.2 D.1 (hashStr w k) (.str k u) F.ris
  have l1 := L2.layNew_led D.2.2 D.1 (hashStr w k) (.str k u)
  have led1 : w.params.followText "set-order" = true ∨ (layNew D.2.2 D.1 (hashStr w k) (.str k u)).2.1.led = true := by rw [l1]; exact F.led
  refine ⟨add_ok u F.tx, ?_, ?_, List.nodup_cons.mpr ⟨m, F.nd⟩⟩
  all_goals
    unfold addTx tailTx
    generalize layNew D.2.2 D.1 (hashStr w k) (.str k u) = Z at r1 led1 ⊢
    obtain ⟨es1, t1, wd, gv⟩ := Z
    dsimp only at r1 led1 ⊢
    by_cases c : t1.plain = true
  all_goals first | rw [if_pos c] | rw [if_neg c]
  all_goals split
  all_goals first
    | exact L2.relayAll_ris _ _ _
    | exact r1
    | exact led1
    | (dsimp only; rw [L2.relayAll_led]; exact led1)
theorem Sx.new {t : SetTable} {ep : Nat} (w : World) (hf : t.fits 0 = true) (hr : L2.Ris t.place.toList) (hl : w.params.followText "set-order" = true ∨ t.led = true) : Sx P w (#[], ep, t) [] := ⟨TxOk.nil hf, hr, hl, List.nodup_nil⟩
theorem fresh_led (w : World) : w.params.followText "set-order" = true ∨ (!w.params.followText "set-order") = true := by
  cases w.params.followText "set-order"
  · exact .inr rfl
  · exact .inl rfl
theorem Sx.fresh (w : World) : Sx P w (#[], 0, .fresh 0 0 (!w.params.followText "set-order")) [] := Sx.new w rfl List.Pairwise.nil (fresh_led w)
/-- the rest of the texts of a source into the set -/
theorem upd_txs {I a : Addr} {fp wr : List Addr} {G : Array GenState → Array GenState → Prop} {n : Nat} {Pv : Nat → Value → Prop} {St : Nat → Shared → Prop} {R : Result → Shared → Prop} {T : String} {xs : List Str}
    (W : WalksS P w A.in1 I fp wr G n Pv St) (na : a ∉ fp) (hn : n = xs.length) (hval : ∀ i v, Pv i v → ∃ x t, xs[i]? = some x ∧ v = .str x t) :
    ∀ (r : List Str) (i : Nat) (D : SD) (l : List Str) (s : Shared), xs.drop i = r → i ≤ n → St i s → s.heap.get? a = some (sObj T D) → Sx P w D l → l.length + r.length < scanBound →
      (∀ (s' : Shared) (D' : SD), Moved (a :: wr) G s s' → s'.heap.get? a = some (sObj T D') → Sx P w D' (once l r) → R (.ok (.ret .none)) s') →
      codeAny (model P w) A (.builtin "set.update.loop" ⟨[.ref a, .ref I], []⟩) R s
  | [], i, D, l, s, dr, hi, st, ha, F, room, q => by
    have e : i = n := by
      have := List.drop_eq_nil_iff.mp dr
      omega
    subst e
    refine codeAny_builtin PyProof.Rows.F.entry_set_update_loop ?_
    rw [Around.under_plainId PyProof.Rows.F.plain_set_update_loop _]
    show wpAny _ A.in1 (pyNext (.ref I) >>= fun _ => _) _ _ s
    refine wpAny_bind (W.done s _ _ st fun s' mv => ?_)
    show wpAny _ A.in1 (ret Value.none) _ _ _
    exact wpAny_pure (q s' D (mv.mono fun b hb => List.mem_cons_of_mem _ hb) (mv.heap a _ (fun h => na (W.sub _ h)) ha) F)
  | c :: r, i, D, l, s, dr, hi, st, ha, F, room, q => by
    have lt : i < xs.length := by
      rcases Nat.lt_or_ge i xs.length with z | z
      · exact z
      · rw [List.drop_eq_nil_iff.mpr z] at dr
        cases dr
    have dr' := List.drop_eq_getElem_cons lt
    rw [dr] at dr'
    have room2 : l.length + (r.length + 1) < scanBound := room
    obtain ⟨ec, dr2⟩ := List.cons.inj dr'
    refine codeAny_builtin PyProof.Rows.F.entry_set_update_loop ?_
    rw [Around.under_plainId PyProof.Rows.F.plain_set_update_loop _]
    show wpAny _ A.in1 (pyNext (.ref I) >>= fun _ => _) _ _ s
    refine wpAny_bind (W.item i s _ _ (by omega) st fun v s1 hv st1 mv => ?_)
    obtain ⟨x, t, ex, rfl⟩ := hval i v hv
    obtain rfl : x = c := by rw [List.getElem?_eq_getElem lt] at ex; rw [ec]; exact (Option.some.inj ex).symm
    have ha1 := mv.heap a _ (fun h => na (W.sub _ h)) ha
    have mv1 : Moved (a :: wr) G s s1 := mv.mono fun b hb => List.mem_cons_of_mem _ hb
    show wpAny _ A.in1 (holding [Value.str x t] (setAdd a (.str x t)) >>= fun _ => _) _ _ _
    refine wpAny_bind (wpAny_holding ?_)
    unfold setAdd
    refine wpAny_holding (wpAny_bind ((strKind P w).pyHash (k := x) (is_str _ _) ?_))
    have on : ∀ {s2 : Shared} {D2 : SD} {l2 : List Str}, St (i + 1) s2 → Moved (a :: wr) G s s2 → s2.heap.get? a = some (sObj T D2) → Sx P w D2 l2 → l2.length ≤ l.length + 1 → once l2 r = once l (x :: r) →
        codeAny (model P w) A (.builtin "set.update.loop" ⟨[.ref a, .ref I], []⟩) R s2 := fun {s2 D2 l2} st2 m2 a2 F2 le e =>
      upd_txs W na hn hval r (i + 1) D2 l2 s2 dr2.symm (by omega) st2 a2 F2 (by omega) fun s' D' m' a' F' => q s' D' (Moved.trans W.gtrans m2 m') a' (by rw [← e]; exact F')
    by_cases m : x ∈ l
    · refine add_there (s := { s1 with toks := s1.toks + 1 }) ha1 F.tx m (by omega) ?_
      refine wpAny_pure ⟨plainId_quiet PyProof.Rows.F.plain_set_update_loop _, on (W.frame _ s1 s1.heap _ st1 (Nat.le_succ _) fun b _ o e => e) (mv1.then_heap (Nat.le_succ _) fun b o _ e => e) ha1 F (by omega) ?_⟩
      show once l r = once l (x :: r)
      unfold once
      rw [List.foldl_cons, if_pos m]
    · refine add_x (l := l) (D := D) (s := { s1 with toks := s1.toks + 1 }) ha1 F.tx m (by omega) ?_
      refine wpAny_pure ⟨plainId_quiet PyProof.Rows.F.plain_set_update_loop _, on (W.frame _ s1 _ _ st1 (Nat.le_succ _) fun b hb o e => ?_) (mv1.then_heap (Nat.le_succ _) fun b o hb e => ?_) (get_upd _ ha1 rfl) (F.add t m) (Nat.le_refl _) ?_⟩
      · exact PySem.Heap.get?_update_of_ne _ (fun h : a = b => na (by rw [h]; exact hb)) e
      · exact PySem.Heap.get?_update_of_ne _ (fun h : a = b => hb (by rw [h]; exact List.mem_cons_self ..)) e
      · show once (x :: l) r = once l (x :: r)
        unfold once
        rw [List.foldl_cons, if_neg m]
/-- what set(xs) leaves -/
abbrev SetLeft (P : Program) (w : World) (s : Shared) (xs : List Str) (Q : Value → Shared → Prop) : Prop :=
  ∀ (h' : Heap) (tk : Nat) (D : SD), h'.get? s.heap.objs.size = some (sObj "set" D) → Sx P w D (once [] xs) → (∀ b o, s.heap.get? b = some o → h'.get? b = some o) → Q (.ref s.heap.objs.size) { s with heap := h', toks := tk }
theorem call_set_L {s : Shared} {p : Addr} {items : Array Value} {xs : List Str} {Q : Value → Shared → Prop} (hh : A.handled = none) (hp : s.heap.IsList p items) (hx : StrsAre items.toList xs) (hb : xs.length < scanBound)
    (h : SetLeft P w s xs Q) : wpAny (model P w) A (call (.type "set") [.ref p]) Q E s := by
  have hsz : items.size = xs.length := by
    have := hx.length
    rw [Array.length_toList] at this
    exact this
  obtain ⟨c, tl, hmro⟩ := PySem.F.called_set.mro
  have hmade := PySem.F.called_set.made
  have hsub := PySem.F.called_set.sub
  refine wpAny_call (codeAny_of_tree ?_)
  show wpAny _ _ (callAny (.type "set") _) _ _ _
  refine wpAny_pure ⟨Code.quiet_builtin _ (by decide +kernel), codeAny_builtin PySem.F.entry_type_call ?_⟩
  rw [Around.under_plain (weight_type_call_type "set" [.ref p] []) rfl]
  have h1 := PySem.F.called_set.notType
  have h2 := PySem.F.called_set.canCreate
  have hct := PySem.F.typeCall_set_1 (.ref p)
  repeat (any_goals (first | assumption | wp_step))
  let S0 : Obj := { cls := .type "set", dict := none, data := .set #[] 0 (.fresh 0 0 (!w.params.followText "set-order")) }
  refine codeAny_mono (L2.code_set_led1 (.ref p) (E := E) (Q₁ := fun obj s1 => obj = .ref s.heap.objs.size ∧ s1 = { s with heap := s.heap.push S0 }) ⟨rfl, rfl⟩) fun r s1 hr => ?_
  match r, hr with
  | .error e, hr => exact hr
  | .ok (.ret obj), hr =>
    obtain ⟨rfl, rfl⟩ := hr
    have hS : (s.heap.push S0).get? s.heap.objs.size = some S0 := Heap.get?_push_size _ rfl
    have hT : Shared.TypeIs { s with heap := s.heap.push S0 } (.ref s.heap.objs.size) "set" := ⟨_, hS, rfl⟩
    have hli := PySem.F.called_set.init.lookup
    have hbi := PySem.F.called_set.init.bind (.ref s.heap.objs.size)
    repeat (any_goals (first | assumption | wp_step))
    refine codeAny_mono (codeAny_call_builtin (R := wants (fun r s2 => r = .none ∧ ∃ (h' : Heap) (tk : Nat) (D : SD), s2 = { s with heap := h', toks := tk } ∧ h'.get? s.heap.objs.size = some (sObj "set" D) ∧ Sx P w D (once [] xs) ∧
      (∀ b o, s.heap.get? b = some o → h'.get? b = some o)) E) PySem.F.called_set.init.plain PySem.F.entry_set_init (check_set_init_1 hT ?_)) fun r2 s2 hr2 => ?_
    · have hp1 : (s.heap.push S0).IsList p items := hp.push _
      obtain ⟨ol, hol, hcl, nl, hdl⟩ := hp
      obtain ⟨ocls, odict, odata, oslots⟩ := ol
      simp only at hcl hdl
      subst hcl; subst hdl
      have hol' := Heap.get?_push_of_some S0 hol
      have hsls := PySem.F.sub_list_set
      have hslf := PySem.F.sub_list_frozenset
      have hne : (Value.type "list" == Value.type "dict") = false := by decide
      unfold Builtin.«set.__init__» noKeywords Builtin.Frozenset.updateFrom
      generalize hPI : pyIter = PI
      wp_walk
      subst hPI
      refine wpAny_pyIter_list hp1 ?_
      refine wpAny_bind (wpAny_runValue ?_)
      have hz1 : (s.heap.push S0).objs.size = s.heap.objs.size + 1 := Heap.size_push ..
      have hps : p < s.heap.objs.size := Heap.lt_size hol
      have nI : p ≠ (s.heap.push S0).objs.size := Nat.ne_of_lt (by rw [hz1]; exact Nat.lt_succ_of_lt hps)
      have nS : s.heap.objs.size ≠ (s.heap.push S0).objs.size := Nat.ne_of_lt (by rw [hz1]; exact Nat.lt_succ_self _)
      refine upd_txs (T := "set") (xs := xs) ((Walks.list (by simp [hh]) _ p nI items).toS) (a := s.heap.objs.size) ?_ hsz (fun i v hv => ?_) xs 0 (#[], 0, .fresh 0 0 (!w.params.followText "set-order")) [] _ rfl (Nat.zero_le _)
        ⟨⟨_, Heap.get?_push_size _ rfl, rfl, rfl⟩, hp1.push _⟩ (Heap.get?_push_of_some _ hS) (Sx.fresh w) (by simpa using hb) fun s' D' mv a' F' => ?_
      · simp only [List.mem_cons, List.not_mem_nil, or_false, not_or]
        exact ⟨nS, Nat.ne_of_gt hps⟩
      · obtain ⟨t, e⟩ := SS.strs_at hx i v (by rw [Array.getElem?_toList]; exact hv)
        have hi : i < xs.length := by rw [← hsz]; exact (Array.getElem?_eq_some_iff.mp hv).1
        refine ⟨xs[i], t, List.getElem?_eq_getElem hi, ?_⟩
        rw [e, List.getD_eq_getElem?_getD, List.getElem?_eq_getElem hi]
        rfl
      · obtain ⟨h', g2, d', tk', os'⟩ := s'
        have eg : g2 = s.gens := mv.gens
        have ed : d' = s.drawn := mv.drawn
        have eo : os' = s.os := mv.os
        subst eg; subst ed; subst eo
        show wpAny _ _ _ _ _ _
        refine wpAny_pure ?_
        show wpAny _ _ (ret Value.none) _ _ _
        refine wpAny_pure ⟨rfl, h', tk', D', rfl, a', F', fun b o e => ?_⟩
        have hb0 : b < s.heap.objs.size := Heap.lt_size e
        exact mv.heap b o (by simp only [List.mem_cons, List.not_mem_nil, or_false, not_or]; exact ⟨Nat.ne_of_lt hb0, Nat.ne_of_lt (by rw [hz1]; exact Nat.lt_succ_of_lt hb0)⟩) (Heap.get?_push_of_some _ (Heap.get?_push_of_some _ e))
    · match r2, hr2 with
      | .error e, hr2 => exact hr2
      | .ok (.ret r), hr2 =>
        obtain ⟨rfl, h', tk, D, rfl, g1, g2, g4⟩ := hr2
        repeat (any_goals (first | assumption | wp_step))
        exact h _ _ _ g1 g2 g4
      | .ok .next, hr2 => exact hr2.elim
      | .ok .brk, hr2 => exact hr2.elim
      | .ok .cont, hr2 => exact hr2.elim
  | .ok .next, hr => exact hr.elim
  | .ok .brk, hr => exact hr.elim
  | .ok .cont, hr => exact hr.elim
theorem call_set_T {s : Shared} {p : Addr} {items : Array Value} {xs : List Str} {Q : Value → Shared → Prop} (hh : A.handled = none) (hp : s.heap.IsTuple p items) (hx : StrsAre items.toList xs) (hb : xs.length < scanBound)
    (h : SetLeft P w s xs Q) : wpAny (model P w) A (call (.type "set") [.ref p]) Q E s := by
  have hsz : items.size = xs.length := by
    have := hx.length
    rw [Array.length_toList] at this
    exact this
  obtain ⟨c, tl, hmro⟩ := PySem.F.called_set.mro
  have hmade := PySem.F.called_set.made
  have hsub := PySem.F.called_set.sub
  refine wpAny_call (codeAny_of_tree ?_)
  show wpAny _ _ (callAny (.type "set") _) _ _ _
  refine wpAny_pure ⟨Code.quiet_builtin _ (by decide +kernel), codeAny_builtin PySem.F.entry_type_call ?_⟩
  rw [Around.under_plain (weight_type_call_type "set" [.ref p] []) rfl]
  have h1 := PySem.F.called_set.notType
  have h2 := PySem.F.called_set.canCreate
  have hct := PySem.F.typeCall_set_1 (.ref p)
  repeat (any_goals (first | assumption | wp_step))
  let S0 : Obj := { cls := .type "set", dict := none, data := .set #[] 0 (.fresh 0 0 (!w.params.followText "set-order")) }
  refine codeAny_mono (L2.code_set_led1 (.ref p) (E := E) (Q₁ := fun obj s1 => obj = .ref s.heap.objs.size ∧ s1 = { s with heap := s.heap.push S0 }) ⟨rfl, rfl⟩) fun r s1 hr => ?_
  match r, hr with
  | .error e, hr => exact hr
  | .ok (.ret obj), hr =>
    obtain ⟨rfl, rfl⟩ := hr
    have hS : (s.heap.push S0).get? s.heap.objs.size = some S0 := Heap.get?_push_size _ rfl
    have hT : Shared.TypeIs { s with heap := s.heap.push S0 } (.ref s.heap.objs.size) "set" := ⟨_, hS, rfl⟩
    have hli := PySem.F.called_set.init.lookup
    have hbi := PySem.F.called_set.init.bind (.ref s.heap.objs.size)
    repeat (any_goals (first | assumption | wp_step))
    refine codeAny_mono (codeAny_call_builtin (R := wants (fun r s2 => r = .none ∧ ∃ (h' : Heap) (tk : Nat) (D : SD), s2 = { s with heap := h', toks := tk } ∧ h'.get? s.heap.objs.size = some (sObj "set" D) ∧ Sx P w D (once [] xs) ∧
      (∀ b o, s.heap.get? b = some o → h'.get? b = some o)) E) PySem.F.called_set.init.plain PySem.F.entry_set_init (check_set_init_1 hT ?_)) fun r2 s2 hr2 => ?_
    · have hp1 : (s.heap.push S0).IsTuple p items := hp.push _
      obtain ⟨ol, hol, hcl, nl, hdl⟩ := hp
      obtain ⟨ocls, odict, odata, oslots⟩ := ol
      simp only at hcl hdl
      subst hcl; subst hdl
      have hol' := Heap.get?_push_of_some S0 hol
      have hsls := PySem.F.sub_tuple_set
      have hslf := PySem.F.sub_tuple_frozenset
      have hne : (Value.type "tuple" == Value.type "dict") = false := by decide
      unfold Builtin.«set.__init__» noKeywords Builtin.Frozenset.updateFrom
      generalize hPI : pyIter = PI
      wp_walk
      subst hPI
      refine wpAny_pyIter_tuple hp1 ?_
      refine wpAny_bind (wpAny_runValue ?_)
      have hz1 : (s.heap.push S0).objs.size = s.heap.objs.size + 1 := Heap.size_push ..
      have hps : p < s.heap.objs.size := Heap.lt_size hol
      have nI : p ≠ (s.heap.push S0).objs.size := Nat.ne_of_lt (by rw [hz1]; exact Nat.lt_succ_of_lt hps)
      have nS : s.heap.objs.size ≠ (s.heap.push S0).objs.size := Nat.ne_of_lt (by rw [hz1]; exact Nat.lt_succ_self _)
      refine upd_txs (T := "set") (xs := xs) ((Walks.tuple (by simp [hh]) _ p nI items).toS) (a := s.heap.objs.size) ?_ hsz (fun i v hv => ?_) xs 0 (#[], 0, .fresh 0 0 (!w.params.followText "set-order")) [] _ rfl (Nat.zero_le _)
        ⟨⟨_, Heap.get?_push_size _ rfl, rfl, rfl⟩, hp1.push _⟩ (Heap.get?_push_of_some _ hS) (Sx.fresh w) (by simpa using hb) fun s' D' mv a' F' => ?_
      · simp only [List.mem_cons, List.not_mem_nil, or_false, not_or]
        exact ⟨nS, Nat.ne_of_gt hps⟩
      · obtain ⟨t, e⟩ := SS.strs_at hx i v (by rw [Array.getElem?_toList]; exact hv)
        have hi : i < xs.length := by rw [← hsz]; exact (Array.getElem?_eq_some_iff.mp hv).1
        refine ⟨xs[i], t, List.getElem?_eq_getElem hi, ?_⟩
        rw [e, List.getD_eq_getElem?_getD, List.getElem?_eq_getElem hi]
        rfl
      · obtain ⟨h', g2, d', tk', os'⟩ := s'
        have eg : g2 = s.gens := mv.gens
        have ed : d' = s.drawn := mv.drawn
        have eo : os' = s.os := mv.os
        subst eg; subst ed; subst eo
        show wpAny _ _ _ _ _ _
        refine wpAny_pure ?_
        show wpAny _ _ (ret Value.none) _ _ _
        refine wpAny_pure ⟨rfl, h', tk', D', rfl, a', F', fun b o e => ?_⟩
        have hb0 : b < s.heap.objs.size := Heap.lt_size e
        exact mv.heap b o (by simp only [List.mem_cons, List.not_mem_nil, or_false, not_or]; exact ⟨Nat.ne_of_lt hb0, Nat.ne_of_lt (by rw [hz1]; exact Nat.lt_succ_of_lt hb0)⟩) (Heap.get?_push_of_some _ (Heap.get?_push_of_some _ e))
    · match r2, hr2 with
      | .error e, hr2 => exact hr2
      | .ok (.ret r), hr2 =>
        obtain ⟨rfl, h', tk, D, rfl, g1, g2, g4⟩ := hr2
        repeat (any_goals (first | assumption | wp_step))
        exact h _ _ _ g1 g2 g4
      | .ok .next, hr2 => exact hr2.elim
      | .ok .brk, hr2 => exact hr2.elim
      | .ok .cont, hr2 => exact hr2.elim
  | .ok .next, hr => exact hr.elim
  | .ok .brk, hr => exact hr.elim
  | .ok .cont, hr => exact hr.elim

/-- the set at a, as the walk knows it -/
def SetS (P : Program) (w : World) (a : Addr) (l : List Str) : L2.HO := .ext fun h => ∃ D, h.get? a = some (sObj "set" D) ∧ Sx P w D l
end
section
open L2
variable {X : Cx}
theorem setS_new {P : Program} {w : World} {H : Hp} {h : Heap} {a : Addr} {D : SD} {l : List Str} (g : h.get? a = some (sObj "set" D)) (F : Sx P w D l) : ObjOk P w H h a (SetS P w a l) :=
  ⟨⟨D, g, F⟩, ⟨_, g⟩, fun _ _ ⟨D', g', F'⟩ k => ⟨D', k _ g', F'⟩⟩
theorem setS_get {pins : List (Addr × Obj)} {σ : L2.St} {H : Hp} {s : Shared} {a : Addr} {l : List Str} (I : Inv X pins σ H s) (ha : H a = some (SetS X.prog X.w a l)) : ∃ D, s.heap.get? a = some (sObj "set" D) ∧ Sx X.prog X.w D l := (I.hok a _ ha).1
/-- the texts of a list or a tuple -/
def TxSq (K : PySem.W.Frag) (H : Hp) (x : V) (xs : List Str) : Prop := ∃ p, x = .ref p ∧ (SqL K H p (xs.map V.str) ∨ SqT K H p (xs.map V.str))
theorem call_set_txs {A : Around} {E : Value → Shared → Prop} {pins : List (Addr × Obj)} {σ : L2.St} {H : Hp} {s : Shared} {x : V} {u : Value} {xs : List Str} {Q : Value → Shared → Prop} (I : Inv X pins σ H s) (hh : A.handled = none) (r : RelV x u) (hx : TxSq X.K H x xs) (hb : xs.length < scanBound)
    (h : SetLeft X.prog X.w s xs Q) : wpAny (model X.prog X.w) A (call (.type "set") [u]) Q E s := by
  obtain ⟨p, rfl, hq | hq⟩ := hx
  · cases r
    obtain ⟨its, rv, pl, hz⟩ := I.list hq
    exact call_set_L hh pl.isList (by simpa using rv.strs) hb h
  · cases r
    obtain ⟨its, rv, pl, hz⟩ := I.tuple hq
    exact call_set_T hh pl (by simpa using rv.strs) hb h
/-- set(xs) -/
def rSetS (K : PySem.W.Frag) (P : Program) (w : World) : List V → Hp → VK → Prop := fun vs H Q => ∃ x xs, vs = [x] ∧ TxSq K H x xs ∧ xs.length < 64 ∧ ∀ a, H a = none → Q (.ref a) (upd H a (SetS P w a (once [] xs)))
theorem cr_setS (hc : X.calm = true) : CallR X (.type "set") (rSetS X.K X.prog X.w) := by
  intro pins s σ H vs us Q I r h
  obtain ⟨x, xs, rfl, hx, h64, q⟩ := h
  obtain ⟨u, rfl, rx⟩ := vals1 r
  refine call_set_txs I (I.ok.hd hc) rx hx (by unfold scanBound; omega) fun h' tk D g F k => ?_
  exact ⟨.ref _, upd H s.heap.objs.size (SetS X.prog X.w s.heap.objs.size (once [] xs)), I.laid (t' := tk) k (Nat.le_refl _) (setS_new g F), rfl, q _ (I.hok.fresh (Nat.le_refl _))⟩
/-- len(set(e)) -/
def tLenSetS (K : PySem.W.Frag) (ta : TE) : TE := fun σ H Q => ta σ H fun x H1 => ∃ xs, TxSq K H1 x xs ∧ xs.length < 64 ∧ Q (.int ((once [] xs).length : Nat)) H1
theorem once_len : ∀ (xs l : List Str), (once l xs).length ≤ l.length + xs.length
  | [], l => Nat.le_refl _
  | c :: r, l => by
    unfold once
    rw [List.foldl_cons]
    have h1 := once_len r l
    have h2 := once_len r (c :: l)
    unfold once at h1 h2
    split
    · simp only [List.length_cons] at h1 ⊢; omega
    · simp only [List.length_cons] at h2 ⊢; omega
theorem once_mem : ∀ (xs l : List Str) (x : Str), x ∈ once l xs ↔ x ∈ l ∨ x ∈ xs
  | [], l, x => by simp [once]
  | c :: r, l, x => by
    unfold once
    rw [List.foldl_cons]
    have h1 := once_mem r l x
    have h2 := once_mem r (c :: l) x
    unfold once at h1 h2
    split
    · rename_i m
      rw [h1, List.mem_cons]
      constructor
      · rintro (z | z)
        · exact .inl z
        · exact .inr (.inr z)
      · rintro (z | rfl | z)
        · exact .inl z
        · exact .inl m
        · exact .inr z
    · rw [h2, List.mem_cons, List.mem_cons, or_assoc, or_left_comm]
theorem once_nodup : ∀ (xs l : List Str), l.Nodup → (once l xs).Nodup
  | [], l, h => h
  | c :: r, l, h => by
    unfold once
    rw [List.foldl_cons]
    split
    · exact once_nodup r l h
    · rename_i m
      exact once_nodup r (c :: l) (List.nodup_cons.mpr ⟨m, h⟩)
theorem once_free : ∀ (xs l : List Str), xs.Nodup → (∀ x ∈ xs, x ∉ l) → (once l xs).length = l.length + xs.length
  | [], l, _, _ => rfl
  | c :: r, l, h, d => by
    obtain ⟨h1, h2⟩ := List.nodup_cons.mp h
    unfold once
    rw [List.foldl_cons, if_neg (d c (List.mem_cons_self ..))]
    have := once_free r (c :: l) h2 fun x hx m => by
      rcases List.mem_cons.mp m with z | z
      · exact h1 (z ▸ hx)
      · exact d x (List.mem_cons_of_mem _ hx) z
    unfold once at this
    rw [this, List.length_cons, List.length_cons]
    omega
theorem pe_lenSetS {a : Expr} {ta : TE} {p p2 q pos : Pos} (hg : Gl X "len") (hm : X.mg "len" = none) (hg2 : Gl X "set") (hm2 : X.mg "set" = none) (ha : PE X a ta) (hc : X.calm = true := by rfl)
    (na : starEach [a] X.env = (false, eval a X.env) :: starEach [] X.env := by rfl) : PE X (.Call (.Name "len" p) [.Call (.Name "set" p2) [a] [] q] [] pos) (tLenSetS X.K ta) := by
  refine ⟨fun pins s σ H Q I h => ?_⟩
  refine Call_ (ld_blt I hg hm boot_len ?_)
  refine PyProof.Rows.callWith_builtin1 (PyProof.Rows.args_cons ?_ rfl) rfl rfl
  refine Call_ (ld_blt I hg2 hm2 (show bootBuiltins ("set" : Str) = some (.type "set") by decide +kernel) ?_)
  refine PyProof.Rows.callWith_type1 (PyProof.Rows.args_cons (thn (ha.run pins s σ H _ I h) fun v s1 ⟨x, H1, I1, r1, q1⟩ => PyProof.Rows.args_nil ?_) na) na rfl
  obtain ⟨xs, hx, h64, q1⟩ := q1
  refine call_set_txs I1 (I1.ok.hd hc) r1 hx (by unfold scanBound; omega) fun h' tk D g1 F k => ?_
  refine PyProof.Rows.args_nil ?_
  have I2 : Inv X pins σ H1 { s1 with heap := h', toks := tk } := I1.kept k
  have hn : D.1.size = (once [] xs).length := F.tx.sz
  have hl := once_len xs []
  simp only [List.length_nil, Nat.zero_add] at hl
  exact call_len_set (es := D.1) (ep := D.2.1) (t := D.2.2) g1 ⟨rfl, rfl, rfl⟩ rfl F.tx.fit (by rw [hn]; omega) ⟨.int (once [] xs).length, H1, I2.tok _, ⟨_, by rw [hn]⟩, q1⟩
/-- sorted(the set) -/
def rSortSet (P : Program) (w : World) : List V → Hp → VK → Prop := fun vs H Q => ∃ a l, vs = [.ref a] ∧ H a = some (SetS P w a l) ∧ l.length < 64 ∧ ∀ (ys : List Str) (p : Addr), ys.Perm l → sortedS ys = true → H p = none → Q (.ref p) (upd H p (.lst (ys.map V.str)))
theorem perm_by : ∀ (l ks : List Str), l.Nodup → (∀ x ∈ l, x ∈ ks) → ks.length ≤ l.length → l.Perm ks
  | [], ks, _, _, h => by
    rw [List.length_eq_zero_iff.mp (Nat.le_zero.mp h)]
  | c :: r, ks, d, m, h => by
    obtain ⟨d1, d2⟩ := List.nodup_cons.mp d
    have hc := m c (List.mem_cons_self ..)
    have hl := List.length_erase_of_mem hc
    have := perm_by r (ks.erase c) d2 (fun x hx => (List.mem_erase_of_ne (fun e : x = c => d1 (by rw [← e]; exact hx))).mpr (m x (List.mem_cons_of_mem _ hx))) (by rw [hl]; simp only [List.length_cons] at h; omega)
    exact (this.cons c).trans (List.perm_cons_erase hc).symm
theorem txs_of : ∀ (vs : List Value), (∀ v ∈ vs, ∃ x t, v = Value.str x t) → ∃ ks : List Str, StrsAre vs ks
  | [], _ => ⟨[], .nil⟩
  | v :: vs, h => by
    obtain ⟨ks, hk⟩ := txs_of vs fun x hx => h x (List.mem_cons_of_mem _ hx)
    obtain ⟨x, t, rfl⟩ := h v (List.mem_cons_self ..)
    exact ⟨x :: ks, .cons x t hk⟩
theorem strs_mem : ∀ {vs : List Value} {ks : List Str}, StrsAre vs ks → ∀ x t, Value.str x t ∈ vs → x ∈ ks
  | _, _, .nil, x, t, h => absurd h (List.not_mem_nil)
  | _, _, .cons y u r, x, t, h => by
    rcases List.mem_cons.mp h with e | m
    · cases e; exact List.mem_cons_self ..
    · exact List.mem_cons_of_mem _ (strs_mem r x t m)
theorem cr_sortSet (hc : X.calm = true) : CallR X (.builtin "sorted") (rSortSet X.prog X.w) := by
  intro pins s σ H vs us Q I r h
  obtain ⟨a, l, rfl, ha, h64, q⟩ := h
  obtain ⟨D, g, F⟩ := setS_get I ha
  rw [Vals.ref1 r]
  have sz : D.1.size = l.length := F.tx.sz
  refine Calls.call_function_entry PyProof.Rows.kind_sorted PyProof.Rows.plain_sorted PyProof.Rows.entry_sorted (PyProof.Rows.args_sorted1 _) ?_
  unfold Builtin.«sorted»
  refine wpAny_bind (m := checkCount "sorted" 1 1 _) (wpAny_pure ?_)
  refine wpAny_bind (L2.collect_set (A := X.A.in1) (es := D.1) (ep := D.2.1) (t := D.2.2) (I.ok.hd hc) ⟨_, g, rfl, rfl⟩ F.tx.fit (by unfold scanBound; omega) F.ris F.led fun s1 out k1 hz g1 o1 pm => ?_)
  have texts : ∀ v ∈ out, ∃ x t, v = Value.str x t := fun v hv => by
    obtain ⟨e, he, rfl⟩ := List.mem_map.mp (pm.mem_iff.mp hv)
    obtain ⟨⟨k, hk, _⟩, _⟩ := F.tx.el e he
    obtain ⟨t, ev⟩ := Value.isStrOf_shape (x := k) (v := e.2) hk
    exact ⟨k, t, ev⟩
  obtain ⟨ks, hS⟩ := txs_of out texts
  have hol : out.length = l.length := by rw [pm.length_eq, List.length_map, Array.length_toList]; exact sz
  have kp : l.Perm ks := perm_by l ks F.nd (fun x hx => by
    obtain ⟨e, he, hk⟩ := (F.tx.mem x).mp hx
    obtain ⟨t, ev⟩ := Value.isStrOf_shape (x := x) (v := e.2) hk
    exact strs_mem hS x t (by rw [← ev]; exact pm.mem_iff.mpr (List.mem_map_of_mem he))) (by rw [← hS.length, hol]; exact Nat.le_refl _)
  have hlen0 : out.length < 64 := by rw [hol]; exact h64
  have I1 : Inv X pins σ H s1 := I.call' (ch := []) o1 (Un.kept k1) (I.hok.kept k1) (by rw [g1]; exact I.bare) (fun _ z => nomatch z)
  refine wpAny_bind (wpAny_newList ?_ (by rw [sizeLine_eq]; omega))
  have hoL : (s1.heap.push (seqObj "list" out.toArray 0)).get? s1.heap.objs.size = some (seqObj "list" out.toArray 0) := Heap.get?_push_size _ rfl
  refine wpAny_bind (wpAny_holding (wpAny_call_entry PyProof.Rows.slot_list_sort ⟨_, hoL, rfl⟩ PyProof.Rows.entry_list_sort
    (list_sort_treeK strKind_oneLt (s := { s1 with heap := s1.heap.push (seqObj "list" out.toArray 0) }) hoL hS.keysOf (fun v₁ v₂ rest e => keyKind_strs (by rw [← e]; exact hS)) hlen0 fun st' hp hs => ⟨_, rfl, ?_⟩)
    (PyProof.Rows.args_list_sort _)))
  obtain ⟨ys, p1, p2, p3⟩ := sorted_out_str hS hp hs
  obtain ⟨e', he'⟩ := PyProof.Rows.sortedHeap_at (vs := out) (out := (arrOf st').map (·.2)) hoL
  have hlen : (ys.map V.str).length ≤ sizeLine := by
    rw [List.length_map, p2.length_eq, kp.symm.length_eq]
    exact Nat.le_trans (Nat.le_of_lt h64) (by decide)
  refine wpAny_pure ⟨_, rfl, .ref s1.heap.objs.size, upd H s1.heap.objs.size (.lst (ys.map V.str)), I1.laid (t' := s1.toks) (fun b u e => ?_) (Nat.le_refl _)
    (show ObjOk X.prog X.w _ _ _ (.lst (ys.map V.str)) from ⟨hlen, ((arrOf st').map (·.2)).toList, e', vals_of_strs p1, by rw [Array.toArray_toList]; exact he'⟩), rfl, q ys _ (p2.trans kp.symm) p3 (I1.hok.fresh (Nat.le_refl _))⟩
  have hb : b < s1.heap.objs.size := Heap.lt_size e
  rw [PyProof.Rows.sortedHeap_old (Nat.ne_of_lt hb) (by rw [size_push']; exact Nat.lt_succ_of_lt hb)]
  exact Heap.get?_push_of_some _ e
end
end FR
set_option Elab.async false
set_option linter.all false
set_option maxRecDepth 100000
set_option maxHeartbeats 4000000
/-! {elt for t0 in i0 for t1 in i1}: a set of texts by two clauses -/
namespace FR
open PySem PySem.Spec PyProof.Rows PySem.Froz L2
abbrev Sl := L2.St
/-- one turn of a clause without tests: B is what it does with an item -/
def turnOf (p : Pos) (tg : Expr) (it : Value) (env : Env) (B : Sem Unit) (ag : Sem Fin) : Sem Fin := do
  standAt p
  match ← pyNext it with
  | none => pure (.done .next)
  | some v =>
    letOwnedTupleGo tg it v
    assign tg env v
    B
    ag
theorem turn_1 (elt t0 i0 t1 i1 : Expr) (scope : Scope) (pos : Pos) (it acc : Value) (env : Env) :
    compTurn (.SetComp elt [⟨t0, i0, [], 0⟩, ⟨t1, i1, [], 0⟩] scope pos) 1 it acc env =
      turnOf i1.pos t1 it env (do let v ← eval elt env; standAt elt.pos; let _ ← call (.builtin "set.add") [acc, v]) (again (.compLoop (.SetComp elt [⟨t0, i0, [], 0⟩, ⟨t1, i1, [], 0⟩] scope pos) 1 it acc env)) := rfl
theorem turn_0 (elt t0 i0 t1 i1 : Expr) (scope : Scope) (pos : Pos) (it acc : Value) (env : Env) :
    compTurn (.SetComp elt [⟨t0, i0, [], 0⟩, ⟨t1, i1, [], 0⟩] scope pos) 0 it acc env =
      turnOf i0.pos t0 it env (do
        let x ← eval i1 env
        standAt i1.pos
        let x ← foldedSetIterable i1 env x
        let _ ← runOwn (.compStart (.SetComp elt [⟨t0, i0, [], 0⟩, ⟨t1, i1, [], 0⟩] scope pos) 1 (← holding [x] (pyIter x)) acc env) env) (again (.compLoop (.SetComp elt [⟨t0, i0, [], 0⟩, ⟨t1, i1, [], 0⟩] scope pos) 0 it acc env)) := by
  unfold turnOf
  simp only [bind_assoc, pure_bind]
  rfl
/-- the slots of τ know what those of σ know -/
def Kn (σ τ : Sl) : Prop := τ.length = σ.length ∧ ∀ (j : Nat) v, σ[j]? = some (some v) → τ[j]? = some (some v)
theorem kn_wipe {σ τ : Sl} {vs : List Nat} (h : wipe τ vs = wipe σ vs) : Kn (wipe σ vs) τ := ⟨by rw [← h, wipe_length], fun j v e => by rw [← h] at e; exact (wipe_some e).1⟩
theorem kn_in {σ τ : Sl} {vs ws : List Nat} (h : wipe τ vs = wipe σ vs) (sub : ∀ i ∈ ws, i ∈ vs) : Kn (wipe σ vs) (wipe τ ws) := ⟨by rw [← h, wipe_length, wipe_length], fun j v e => by
  rw [← h] at e
  obtain ⟨e1, e2⟩ := wipe_some e
  rw [wipe_out fun z => e2 (sub j z)]
  exact e1⟩
theorem Inv.known {X : Cx} {pins : List (Addr × Obj)} {σ τ : Sl} {H : Hp} {s : Shared} (I : Inv X pins τ H s) (k : Kn σ τ) : Inv X pins σ H s := I.weak k.1.symm k.2
section
variable {Y : Cx}
/-- what one turn needs -/
def Round (J : It) (g : TG) (σ0 : Sl) (B : Sl → Hp → (Hp → Prop) → Prop) (Qd : Hp → Prop) (W : Nat → Nat → Hp → Prop) : Prop := ∀ i m H, W i m H →
  (J.stop i H ∧ Qd H) ∨ (J.go i H ∧ ∃ Nx : Hp → Prop, (∀ H', Nx H' → ∃ m', m' < m ∧ W (i + 1) m' H') ∧ ∀ x H', J.yld i H x H' → g x σ0 H' fun σ2 H2 => B σ2 H2 Nx)
theorem clause {k : Nat} {e tg elt : Expr} {gens : List Comprehension} {scope : Scope} {pos p : Pos} {g : TG} {B : Sem Unit} {Bt : Sl → Hp → (Hp → Prop) → Prop} {it D : Addr} {fp : List Addr} {tn : Nat → Heap → Prop} {J : It} {Qd : Hp → Prop} {W : Nat → Nat → Hp → Prop} {pins : List (Addr × Obj)} {σ0 : Sl} {R : Result → Shared → Prop}
    (he : e = .SetComp elt gens scope pos) (hc : Y.calm = true) (hx : Y.xe = fun _ _ => False) (hq : (Code.compLoop e k (.ref it) (.ref D) Y.env).quiet = true) (eq : compTurn e k (.ref it) (.ref D) Y.env = turnOf p tg (.ref it) Y.env B (again (.compLoop e k (.ref it) (.ref D) Y.env)))
    (T : Turn Y.prog Y.w Y.K tg J fp it tn) (pg : PG Y tg g)
    (body : ∀ (pins' : List (Addr × Obj)) (s : Shared) (σ2 : Sl) (H : Hp) (Nx : Hp → Prop), Inv Y pins' σ2 H s → Bt σ2 H Nx → wpAny (model Y.prog Y.w) Y.A B (fun _ s' => ∃ σ3 H', Inv Y pins' σ3 H' s' ∧ Kn σ0 σ3 ∧ Nx H') (fun _ _ => False) s)
    (rd : Round J g σ0 Bt Qd W) (hR : ∀ s' H', Inv Y pins σ0 H' s' → Qd H' → R (.ok .next) s')
    {m : Nat} {H : Hp} {s : Shared} (I : Inv Y pins σ0 H s) (st : tn 0 s.heap) (hf : ∀ b ∈ fp, FpOk Y pins H b) (w : W 0 m H) : codeAny (model Y.prog Y.w) Y.A (.compLoop e k (.ref it) (.ref D) Y.env) R s := by
  subst he
  have ok : ∀ {H' : Hp}, (∀ b ∈ fp, H' b = none) → ∀ b ∈ fp, FpOk Y pins H' b := fun n b hb => ⟨n b hb, (hf b hb).2⟩
  refine codeAny_loop hq (fun n s' => ∃ i H', Inv Y pins σ0 H' s' ∧ tn i s'.heap ∧ (∀ b ∈ fp, H' b = none) ∧ W i n H') ?_ m ⟨0, H, I, st, fun b hb => (hf b hb).1, w⟩
  rintro n s5 ⟨i, H5, I5, st5, n5, w5⟩
  show wpAny _ Y.A ((compTurn (.SetComp elt gens scope pos) k (.ref it) (.ref D) Y.env).onRaise (fun x => do noteFrame x Y.env; theTreesLotGoes x)) _ _ s5
  refine wpAny_noted ?_
  rw [eq]
  unfold turnOf
  refine wpAny_bind (wpAny_standAt (wpAny_bind ?_))
  rcases rd i n H5 w5 with ⟨stop, q⟩ | ⟨go, Nx, on, step⟩
  · refine thnF (T.done Y rfl rfl rfl hc i pins s5 σ0 H5 (fun _ _ => False) I5 (ok n5) st5 stop) fun r s6 ⟨hr, I6⟩ => ?_
    subst hr
    exact wpAny_pure (hR s6 H5 I6 q)
  · refine thnF (T.item Y rfl rfl rfl hc i pins s5 σ0 H5 (fun _ _ => False) I5 (ok n5) st5 go) fun r s6 ⟨u, hr, h6⟩ => ?_
    subst hr
    refine wpAny_bind (thnF h6 fun _ s7 ⟨x, H7, I7, r7, y7, st7, n7⟩ => ?_)
    have I7' := I7.pinned (ok n7) (T.obj _ _ st7)
    have run := pg.run _ s7 σ0 H7 x u _ I7' r7 (step x H7 y7)
    rw [hx] at run
    refine wpAny_bind (thnF run fun _ s8 ⟨σ8, H8, I8, q8⟩ => ?_)
    refine wpAny_bind (thnF (body _ s8 σ8 H8 Nx I8 q8) fun _ s9 ⟨σ9, H9, I9, kn, nx⟩ => ?_)
    obtain ⟨m', hm, w'⟩ := on H9 nx
    have there : ∀ b ∈ fp, ∀ o, s7.heap.get? b = some o → s9.heap.get? b = some o ∧ H9 b = none := fun b hb o e =>
      let z := I9.pin (b, o) (List.mem_append_right _ (List.mem_append_right _ (mem_pinsAt hb e)))
      ⟨z.1, z.2.1⟩
    refine wpAny_pure ⟨rfl, m', hm, i + 1, H9, Inv.known I9.unpinned kn, T.keep _ _ _ st7 fun b hb o e => (there b hb o e).1, fun b hb => ?_, w'⟩
    obtain ⟨o, e, _⟩ := T.obj _ _ st7 b hb
    exact (there b hb o e).2
/-- set.add of a text -/
theorem add_text {A : Around} {E : Value → Shared → Prop} {pins : List (Addr × Obj)} {σ : Sl} {H : Hp} {s : Shared} {D : Addr} {l : List Str} {x : Str} {u : Tok} {Q : Value → Shared → Prop} (I : Inv Y pins σ H s) (hD : H D = some (SetS Y.prog Y.w D l)) (room : l.length + 1 < scanBound)
    (h : ∀ s', Inv Y pins σ (upd H D (SetS Y.prog Y.w D (once l [x]))) s' → Q .none s') : wpAny (model Y.prog Y.w) A (call (.builtin "set.add") [.ref D, .str x u]) Q E s := by
  obtain ⟨P, g, F⟩ := setS_get I hD
  have hT : s.TypeIs (.ref D) "set" := ⟨_, g, rfl⟩
  have same : once l [x] = if x ∈ l then l else x :: l := rfl
  rw [same] at h
  refine wpAny_call_entry PySem.F.slot_set_add hT PySem.F.entry_set_add ?_ (PySem.F.args_set_add_2 _ _)
  unfold Builtin.«set.add» Builtin.Frozenset.oneOther
  simp only [List.isEmpty_nil, bind_assoc]
  unfold Builtin.Frozenset.addrOf setAdd
  refine wpAny_bind (wpAny_pure ?_)
  try dsimp only
  refine wpAny_bind (wpAny_pure ?_)
  try dsimp only
  refine wpAny_bind (wpAny_holding (wpAny_bind ((strKind Y.prog Y.w).pyHash (k := x) (is_str _ _) ?_)))
  by_cases m : x ∈ l
  · rw [if_pos m] at h
    refine add_there (s := { s with toks := s.toks + 1 }) g F.tx m (by omega) ?_
    show wpAny _ _ (ret Value.none) _ _ _
    refine wpAny_pure ⟨_, rfl, h _ ?_⟩
    have e : upd H D (SetS Y.prog Y.w D l) = H := by
      funext b
      unfold upd
      split
      · rename_i z; rw [z]; exact hD.symm
      · rfl
    rw [e]
    exact I.tok _
  · rw [if_neg m] at h
    refine add_x (l := l) (D := P) (s := { s with toks := s.toks + 1 }) g F.tx m room ?_
    show wpAny _ _ (ret Value.none) _ _ _
    refine wpAny_pure ⟨_, rfl, h _ (I.write (e := D) (t' := s.toks + 1) (by rw [hD]; trivial) (.inl rfl) (fun b o n e => PySem.Heap.get?_update_of_ne _ (Ne.symm n) e) ⟨_, get_upd _ g rfl⟩ (setS_new (get_upd _ g rfl) (F.add u m)))⟩
end
section
variable {prog : Program} {w : World} {A : Around} {R : Result → Shared → Prop} {s : Shared} {elt t0 i0 t1 i1 : Expr} {scope : Scope} {pos : Pos} {it acc : Value} {env : Env}
theorem start_1 (h0 : codeAny (model prog w) A (.compLoop (.SetComp elt [⟨t0, i0, [], 0⟩, ⟨t1, i1, [], 0⟩] scope pos) 1 it acc env) R s)
    (h : wpAny (model prog w) A (pyIter it) (fun it' s' => codeAny (model prog w) A (.compLoop (.SetComp elt [⟨t0, i0, [], 0⟩, ⟨t1, i1, [], 0⟩] scope pos) 1 it' acc env) R s') (notedBy (model prog w) A env fun x s' => R (.error x) s') s) :
    codeAny (model prog w) A (.compStart (.SetComp elt [⟨t0, i0, [], 0⟩, ⟨t1, i1, [], 0⟩] scope pos) 1 it acc env) R s := by
  refine codeAny_of_tree ?_
  show wpAny _ _ ((compStart (.SetComp elt [⟨t0, i0, [], 0⟩, ⟨t1, i1, [], 0⟩] scope pos) 1 it acc env).onRaise (fun x => do noteFrame x env; standAt theWindowsPlace)) _ _ s
  refine wpAny_notedAt ?_
  unfold compStart
  show wpAny _ _ (ask >>= _) _ _ s
  refine wpAny_bind (wpAny_askSetting (wpAny_ite ?_))
  split
  · first | exact wpAny_bind (wpAny_pure (wpAny_pure ⟨rfl, h0⟩)) | exact wpAny_pure ⟨rfl, h0⟩
  · refine wpAny_bind (wpAny_rule ?_)
    show wpAny _ _ (standAt i1.pos >>= _) _ _ s
    exact wpAny_bind (wpAny_standAt (wpAny_bind (wpAny_mono h (fun it' s' h' => wpAny_pure ⟨rfl, h'⟩) fun _ _ x => x)))
end
section
variable {X : Cx}
/-- {elt for t0 in i0 for t1 in i1}; vs: the block's names, vs1: those of t1 -/
def tSc2 (P : Program) (w : World) (wi : TI) (g : TG) (wi1 : TI) (g1 : TG) (te : TE) (vs vs1 : List Nat) : TE := fun σ H Q => wi σ H fun J H1 => ∀ D, H1 D = none → ∃ W : Nat → Nat → Hp → Prop, (∃ m, W 0 m (upd H1 D (SetS P w D []))) ∧
  Round J g (wipe σ vs) (fun σ2 H2 Nx => wipe σ2 vs = wipe σ vs ∧ wi1 σ2 H2 fun J1 H3 => ∃ W1 : Nat → Nat → Hp → Prop, (∃ m, W1 0 m H3) ∧
    Round J1 g1 (wipe σ2 vs1) (fun σ3 H5 Nx1 => wipe σ3 vs1 = wipe σ2 vs1 ∧ te σ3 H5 fun y H6 => ∃ x l, y = .str x ∧ H6 D = some (SetS P w D l) ∧ l.length + 1 < scanBound ∧ Nx1 (upd H6 D (SetS P w D (once l [x])))) Nx W1) (Q (.ref D)) W
theorem pe_sc2 {elt t0 i0 t1 i1 : Expr} {scope : Scope} {own : List (Str × Nat)} {vs1 : List Nat} {pos : Pos} {wi wi1 : TI} {g g1 : TG} {te : TE} (hc : X.calm = true) (hN : X.N.Nodup) (hi : PI X t0 i0 wi) (ok : BlkOk X.N X.env.scope scope own) (hv : ∀ i ∈ vs1, i ∈ own.map (·.2))
    (hg : ∀ (s : Shared) (H : Hp) (C : Addr) (cl : List (Str × Addr)) (fp : List Addr), PG (X.blk s H scope (compEnvC scope cl C X.env) fp) t0 g)
    (hi1 : ∀ (s : Shared) (H : Hp) (C : Addr) (cl : List (Str × Addr)) (fp : List Addr), PI (X.blk s H scope (compEnvC scope cl C X.env) fp) t1 i1 wi1)
    (hg1 : ∀ (s : Shared) (H : Hp) (C : Addr) (cl : List (Str × Addr)) (fp : List Addr), PG (X.blk s H scope (compEnvC scope cl C X.env) fp) t1 g1)
    (he : ∀ (s : Shared) (H : Hp) (C : Addr) (cl : List (Str × Addr)) (fp : List Addr), PE (X.blk s H scope (compEnvC scope cl C X.env) fp) elt te)
    (hs : ∀ x, foldedSetIterable i0 X.env x = pure x := by intro _; rfl) (hs1 : ∀ env x, foldedSetIterable i1 env x = pure x := by intro _ _; rfl) :
    PE X (.SetComp elt [⟨t0, i0, [], 0⟩, ⟨t1, i1, [], 0⟩] scope pos) (tSc2 X.prog X.w wi g wi1 g1 te (own.map (·.2)) vs1) := by
  refine ⟨fun pins s σ H Q I h => ?_⟩
  have hfree : ∀ y ∈ scope.names, y.2 = .free → ∃ c, X.env.cells.lookup y.1 = some c := fun y hy e => I.ok.has _ (ok.free y hy e)
  show wpAny _ _ (comprehension _ _ _ _ _ _ _) _ _ _
  refine wpAny_comprehension_free (use := none) rfl hs (closure_ok hfree) ok.kind (fun y hy e => by rw [ok.uniq y hy, e]) (thn (hi.run pins s σ H _ I h) fun xv s1 hx => thn hx fun itv s2 h2 => ?_)
  obtain ⟨it, fp, tn, J, H2, rfl, I2, T, st2, f2, q⟩ := h2
  refine PpSet.newSet_ok (newEnv_comp ?_)
  generalize hD : s2.heap.objs.size = D
  have hDn : H2 D = none := I2.hok.fresh (Nat.le_of_eq hD)
  obtain ⟨W, ⟨m0, w0⟩, rd⟩ := q D hDn
  let S0 : Obj := { cls := .type "set", dict := none, data := .set #[] 0 (.fresh 0 0 (!X.w.params.followText "set-order")) }
  generalize hs3 : ({ s2 with heap := s2.heap.push S0 } : Shared) = s3
  generalize hH3 : upd H2 D (SetS X.prog X.w D []) = H3 at w0
  have h3 : s3.heap = s2.heap.push S0 := by rw [← hs3]
  have I3 : Inv X pins σ H3 s3 := by
    rw [← hs3, ← hH3]
    refine I2.laid (t' := s2.toks) (fun b o e => Heap.get?_push_of_some _ e) (Nat.le_of_eq hD) ?_
    rw [← hD]
    exact setS_new (D := (#[], 0, .fresh 0 0 (!X.w.params.followText "set-order"))) (Heap.get?_push_size _ rfl) (Sx.fresh X.w)
  have f3 : ∀ b ∈ fp, FpOk X pins H3 b ∧ b < s3.heap.objs.size := fun b hb => by
    obtain ⟨o, e, _⟩ := T.obj _ _ st2 b hb
    have lt := Heap.lt_size e
    refine ⟨⟨?_, (f2 b hb).2⟩, by rw [h3, Heap.size_push]; exact Nat.lt_succ_of_lt lt⟩
    rw [← hH3, upd_ne (by rw [← hD]; exact Nat.ne_of_lt lt)]
    exact (f2 b hb).1
  have I4 := block_start I3 ok hN f3
  have keep4 : ∀ b o, s2.heap.get? b = some o → (pushCells (s3.heap.push { cls := .type "dict", data := .dict #[] }) scope.names).get? b = some o := fun b o e => pushCells_keeps _ _ _ _ (Heap.get?_push_of_some _ (by rw [h3]; exact Heap.get?_push_of_some _ e))
  show codeAny _ _ (.compStart (.SetComp elt [⟨t0, i0, [], 0⟩, ⟨t1, i1, [], 0⟩] scope pos) 0 (.ref it) (.ref D) (compEnvC scope (cellsFrom (s3.heap.objs.size + 1) scope.names (cloFrom X.env.cells scope.names [])) s3.heap.objs.size X.env)) _ { s3 with heap := pushCells (s3.heap.push { cls := .type "dict", data := .dict #[] }) scope.names }
  have pg := hg s3 H3 s3.heap.objs.size (cellsFrom (s3.heap.objs.size + 1) scope.names (cloFrom X.env.cells scope.names [])) fp
  have pe := he s3 H3 s3.heap.objs.size (cellsFrom (s3.heap.objs.size + 1) scope.names (cloFrom X.env.cells scope.names [])) fp
  have pi1 := hi1 s3 H3 s3.heap.objs.size (cellsFrom (s3.heap.objs.size + 1) scope.names (cloFrom X.env.cells scope.names [])) fp
  have pg1 := hg1 s3 H3 s3.heap.objs.size (cellsFrom (s3.heap.objs.size + 1) scope.names (cloFrom X.env.cells scope.names [])) fp
  generalize hce : compEnvC scope (cellsFrom (s3.heap.objs.size + 1) scope.names (cloFrom X.env.cells scope.names [])) s3.heap.objs.size X.env = ce at I4 pg pe pi1 pg1 ⊢
  have cL : ce.locals = s3.heap.objs.size := by subst hce; rfl
  generalize hs4 : ({ s3 with heap := pushCells (s3.heap.push { cls := .type "dict", data := .dict #[] }) scope.names } : Shared) = s4 at I4 ⊢
  have st4 : tn 0 s4.heap := T.keep _ _ _ st2 fun b _ o e => by rw [← hs4]; exact keep4 b o e
  have nfp : ∀ b ∈ fp, H3 b = none := fun b hb => (f3 b hb).1.1
  have fY : ∀ b ∈ fp, FpOk (X.blk s3 H3 scope ce fp) [] H3 b := fun b hb =>
    ⟨nfp b hb, (I4.ok.exf b hb).1, I4.ok.exfs b hb, .inl hb, fun x c e => (I4.ok.exf b hb).2 x c e, fun p hp => absurd (show p ∈ ([] : List (Addr × Obj)) ++ [] from hp) (by simp)⟩
  have loop : codeAny (model X.prog X.w) X.A (.compLoop (.SetComp elt [⟨t0, i0, [], 0⟩, ⟨t1, i1, [], 0⟩] scope pos) 0 (.ref it) (.ref D) ce) (compPost (model X.prog X.w) X.A X.xe none (fun v s' => ∃ x H', Inv X pins σ H' s' ∧ RelV x v ∧ Q x H') (.ref D) s3.heap.objs.size) s4 := by
    refine clause (Y := X.blk s3 H3 scope ce fp) rfl hc rfl rfl (turn_0 elt t0 i0 t1 i1 scope pos (.ref it) (.ref D) ce) T pg ?_ rd ?_ I4 st4 fY w0
    · intro pins' s5 σ5 H5 Nx I5 q5
      obtain ⟨hw5, q5⟩ := q5
      refine wpAny_bind (thnF (pi1.run _ s5 σ5 H5 _ I5 q5) fun xv s6 hx => ?_)
      refine wpAny_bind (wpAny_standAt (wpAny_bind (wpAny_of_eq (hs1 ce xv) (wpAny_bind (wpAny_holding (thnF hx fun itv s7 h7 => ?_))))))
      obtain ⟨it1, fp1, tn1, J1, H7, rfl, I7, T1, st7, f7, W1, ⟨m1, w1⟩, rd1⟩ := h7
      refine wpAny_bind (wpAny_runOwn ?_)
      rw [Around.mark_none]
      have loop1 : codeAny (model X.prog X.w) X.A (.compLoop (.SetComp elt [⟨t0, i0, [], 0⟩, ⟨t1, i1, [], 0⟩] scope pos) 1 (.ref it1) (.ref D) ce)
          (fun r s' => match r with
            | .ok _ => ∃ σ3 H', Inv (X.blk s3 H3 scope ce fp) pins' σ3 H' s' ∧ Kn (wipe σ (own.map (·.2))) σ3 ∧ Nx H'
            | .error _ => False) s7 := by
        refine clause (Y := X.blk s3 H3 scope ce fp) rfl hc rfl rfl (turn_1 elt t0 i0 t1 i1 scope pos (.ref it1) (.ref D) ce) T1 pg1 (σ0 := wipe σ5 vs1) ?_ rd1 (fun s9 H9 I9 q9 => ⟨_, H9, I9, kn_in hw5 hv, q9⟩) (Inv.known I7 (kn_wipe rfl)) st7 f7 w1
        intro pins8 s8 σ8 H8 Nx1 I8 q8
        obtain ⟨hw8, q8⟩ := q8
        refine wpAny_bind (thnF (pe.run _ s8 σ8 H8 _ I8 q8) fun v s9 ⟨y, H9, I9, r9, x, l, ey, hD9, room, nx⟩ => ?_)
        subst ey
        obtain ⟨u, rfl⟩ := r9
        refine wpAny_bind (wpAny_standAt (wpAny_bind ?_))
        exact add_text (Y := X.blk s3 H3 scope ce fp) I9 hD9 room fun s10 I10 => wpAny_pure ⟨σ8, _, I10, kn_wipe hw8, nx⟩
      refine codeAny_mono (start_1 loop1 (T1.self X.A 0 _ _ _ st7 loop1)) fun r s' hr => ?_
      cases r with
      | ok f => exact wpAny_pure hr
      | error e => exact hr.elim
    · intro s6 H6 I6 q6
      have I7 : Inv X pins σ H6 s6 := I3.call' (ch := fp) I6.os I6.base I6.hok I6.bare fun b hb => ⟨(f3 b hb).1.2.2.2.1, (f3 b hb).1.2.1, (f3 b hb).1.2.2.2.2.1, (f3 b hb).1.2.2.2.2.2⟩
      have nC : H6 s3.heap.objs.size = none := by
        have z : H6 ce.locals = none := I6.free
        rw [cL] at z
        exact z
      obtain ⟨m, hn, _⟩ := I6.loc
      have hn : s6.heap.Ns ce.locals m := hn
      rw [cL] at hn
      obtain ⟨a0, a1, a2, a3, a4, a5⟩ := I3.fpOk (Nat.le_refl _) nC
      exact ⟨m, hn, fun h'' sb => ⟨.ref D, H6, I7.turned (t' := s6.toks) (fun b o hb e => (sb.2 b hb).trans e) a0 a1 a3 a4 a5, rfl, q6⟩⟩
  exact PpSet.codeAny_compStart_set loop (T.self X.A 0 _ _ _ st4 loop)
end
end FR
set_option Elab.async false
set_option linter.all false
set_option maxRecDepth 100000
set_option maxHeartbeats 4000000
/-! not in an own object; a list's slice by a step of one or minus one; sum(lists, start=[]) -/
namespace FR
open PySem PySem.Spec PyProof.Rows
section
open L2
variable {X : Cx} {C g : Addr} {n : Nat} {sp : Sp} {CX : CXT} {E : XK}
def rNotInI (C : Addr) (sp : Sp) (E : XK) : R2 := fun x y H Q => ∃ a dx fs, y = .ref a ∧ H a = some (.ins C dx fs) ∧ sp [y, x] H (fun z H' => ∃ b, z = .bl b ∧ Q (.bl (!b)) H') E
theorem op_notInI (hs : PySem.W.findIn X.K (.ref C) "__contains__" = some (some (.ref g))) (hf : PySem.W.isFn X.K (.ref g) = true) (F : FnR X.prog X.w X.K X.mg X.base CX n g sp)
    (hr : Room n X.A) (hx : Passes CX X E) : OpR X (compareOp .NotIn) (rNotInI C sp E) := by
  intro pins s σ H x y v u Q I rx ry h
  obtain ⟨a, dx, fs, rfl, ha, q⟩ := h
  cases (show u = Value.ref a from ry)
  obtain ⟨od, J⟩ := ins_inst I ha
  obtain ⟨m, hF⟩ := I.fr
  refine PySem.W.notIn_K hF I.ok.mod.kin J hs hf (wpAny_mono (wpAny_call (run_fnR (us := [.ref a, v]) (vs := [.ref a, x]) F hr hx I (.cons rfl (.cons rx .nil)) q)) (fun w s' z => ?_) fun _ _ x => x)
  obtain ⟨z', H', I', rz, b, eb, qz⟩ := z
  subst eb
  cases (show w = Value.bool b from rz)
  exact wpAny_truthy_bool ⟨.bl (!b), H', I', rfl, qz⟩
/-- xs[::k], k one or minus one -/
def tStepL (K : PySem.W.Frag) (te : TE) (tp : L2.St → Hp → (Option Int → Hp → Prop) → Prop) : TE := fun σ H Q => te σ H fun x H1 => ∃ a xs, x = .ref a ∧ SqL K H1 a xs ∧ tp σ H1 fun o H2 => SqL K H2 a xs ∧
  ((o = some 1 ∧ ∀ p, H2 p = none → Q (.ref p) (upd H2 p (.lst xs))) ∨ (o = some (-1) ∧ ∀ p, H2 p = none → Q (.ref p) (upd H2 p (.lst xs.reverse))))
theorem pick_all (items : Array Value) : slicePick items none none (some 1) = items := by
  have e : sliceBounds none none (some 1) items.size = (0, (items.size : Int), 1) := by first | rfl | simp [sliceBounds]
  unfold slicePick
  rw [e]
  have h1 := sliceRange_one 0 items.size
  have h2 := pick_run items 0 items.size
  simp only [Nat.sub_zero] at h1
  show ((sliceRange 0 (items.size : Int) 1).filterMap (items[·]?)).toArray = items
  rw [show sliceRange 0 (items.size : Int) 1 = (List.range items.size).map (0 + ·) from h1, h2, List.drop_zero, List.take_of_length_le (by rw [Array.length_toList]; exact Nat.le_refl _), Array.toArray_toList]
theorem pe_stepL {e se : Expr} {te : TE} {tp : L2.St → Hp → (Option Int → Hp → Prop) → Prop} {p3 pos : Pos} (he : PE X e te) (hp : PO X (some se) tp) (hops : ∀ v w, subscripted (.Slice none none (some se) p3) false v w = operate [v, w] (getItem v w) := by intro _ _; with_unfolding_all rfl) :
    PE X (.Subscript e (.Slice none none (some se) p3) pos) (tStepL X.K te tp) := by
  refine ⟨fun pins s σ H Q I h => ?_⟩
  refine Subscript_ (thn (he.run pins s σ H _ I h) fun v s1 ⟨x, H1, I1, r1, q1⟩ => ?_)
  obtain ⟨a, xs, ex, hx, q⟩ := q1
  subst ex
  cases r1
  refine wpAny_Slice (thn (po_none.run pins s1 σ H1 (fun o H2 => o = none ∧ H2 = H1) I1 ⟨rfl, rfl⟩) fun vl s2 ⟨l, H2, I2, pl, el, e2⟩ => ?_)
  subst el e2
  refine thn (po_none.run pins s2 σ H2 (fun o H3 => o = none ∧ H3 = H2) I2 ⟨rfl, rfl⟩) fun vu s3 ⟨u, H3, I3, pu, eu, e3⟩ => ?_
  subst eu e3
  refine thn (hp.run pins s3 σ H3 _ I3 q) fun vs s4 ⟨o, H4, I4, ps, hx4, q4⟩ => ?_
  have I5 : Inv X pins σ H4 { s4 with heap := s4.heap.push { cls := .type "slice", data := .fields #[vl, vu, vs] } } := I4.kept (t' := s4.toks) fun b ob q => Heap.get?_push_of_some _ q
  obtain ⟨its, r, ht, hz⟩ := I5.list hx4
  have hlen := r.length
  show wpAny (model X.prog X.w) X.A (subscriptTail e (.Slice none none (some se) p3) (.ref a) (.ref s4.heap.objs.size)) (EP X pins σ Q) X.xe { s4 with heap := s4.heap.push { cls := .type "slice", data := .fields #[vl, vu, vs] } }
  refine tail_any (ops := [.ref a, .ref s4.heap.objs.size]) ht.isList.typeIs (PySem.slot_list_getitem.lookup) ?_ (hops _ _)
  rcases q4 with ⟨rfl, q4⟩ | ⟨rfl, q4⟩
  · refine wpAny_getItem_list_slice ht.isList (Heap.IsSliceOf.new _ vl vu vs) pl pu ps (by decide) ?_ (by rw [List.size_toArray]; omega)
    rw [pick_all]
    refine ⟨.ref _, _, I5.laid (t' := s4.toks) (o := .lst xs) (fun b ob q => Heap.get?_push_of_some _ q) (Nat.le_refl _) ?_, rfl, q4 _ (I5.hok.fresh (Nat.le_refl _))⟩
    exact ⟨hz, _, 0, r, Heap.get?_push_size _ rfl⟩
  · refine wpAny_getItem_list_slice ht.isList (Heap.IsSliceOf.new _ vl vu vs) pl pu ps (by decide) ?_ (by rw [List.size_toArray]; omega)
    rw [PySem.W.krv_pick]
    refine ⟨.ref _, _, I5.laid (t' := s4.toks) (o := .lst xs.reverse) (fun b ob q => Heap.get?_push_of_some _ q) (Nat.le_refl _) ?_, rfl, q4 _ (I5.hok.fresh (Nat.le_refl _))⟩
    exact ⟨by rw [List.length_reverse]; exact hz, _, 0, r.reverse, Heap.get?_push_size _ rfl⟩
end
section
variable {prog : Program} {w : World} {A : Around}
/-- the lists of a list, one behind the other -/
theorem sum_go {R : Result → Shared → Prop} {I S l : Addr} {items : Array Value} (hh : A.handled = none) (nSI : S ≠ I) (nSl : S ≠ l) (nlI : l ≠ I) :
    ∀ (rest : List (Addr × List Value)) (i : Nat) (s : Shared) (t : Addr) (tot : List Value) (n c : Nat), items.toList.drop i = rest.map (fun q => Value.ref q.1) → i ≤ items.size → s.heap.IsListIter I l i → s.heap.IsList l items →
      IsL s.heap S #[.ref t] c → IsL s.heap t tot.toArray n → (∀ q ∈ rest, ∃ k, IsL s.heap q.1 q.2.toArray k) → t ≠ S → t ≠ I → (∀ q ∈ rest, q.1 ≠ S ∧ q.1 ≠ I) → tot.length + (rest.map (·.2.length)).sum ≤ sizeLine →
      (∀ (h' : Heap) (tk : Nat) (t' : Addr) (k : Nat), IsL h' t' (tot ++ (rest.map (·.2)).flatten).toArray k → (∀ b o, b ≠ S → b ≠ I → s.heap.get? b = some o → h'.get? b = some o) → (rest = [] → t' = t) → (rest ≠ [] → s.heap.objs.size ≤ t') → R (.ok (.ret (.ref t'))) { s with heap := h', toks := tk }) →
      codeAny (model prog w) A (.builtin "sum.loop" ⟨[.ref I, .ref S, rawInt 2, rawInt 0], []⟩) R s
  | [], i, s, t, tot, n, c, dr, hi, it, hl, hS, ht, _, _, _, _, _, q => by
    have e : items.toList[i]? = none := by
      rw [← List.head?_drop, dr]; rfl
    refine codeAny_builtin F.entry_sum_loop ?_
    rw [Around.under_plainId F.plain_sum_loop _]
    show wpAny _ A.in1 (seqItems? (.ref S) >>= _) _ _ s
    refine wpAny_bind (wpAny_seqItems hS rfl ?_)
    show wpAny _ A.in1 (tryCatch (pyNext (.ref I)) _ >>= _) _ _ s
    refine wpAny_bind (wpAny_tryCatch (wpAny_pyNext_list_end (by simp [hh]) it hl (by rw [← Array.getElem?_toList]; exact e) fun h' he => ?_))
    refine wpAny_pure (q h' s.toks t n (by simpa using he t _ (by assumption) ht) (fun b o n1 n2 e => he b o n2 e) (fun _ => rfl) (fun h => absurd rfl h))
  | (b, ys) :: rest, i, s, t, tot, n, c, dr, hi, it, hl, hS, ht, hr, ntS, ntI, nr, bound, q => by
    have hx : items[i]? = some (.ref b) := by
      rw [← Array.getElem?_toList, ← List.head?_drop, dr]; rfl
    have dr2 : items.toList.drop (i + 1) = rest.map (fun q => Value.ref q.1) := by
      rw [← List.tail_drop, dr]; rfl
    have lt : i < items.size := (Array.getElem?_eq_some_iff.mp hx).1
    obtain ⟨kb, hb⟩ := hr (b, ys) (List.mem_cons_self ..)
    obtain ⟨nbS, nbI⟩ := nr (b, ys) (List.mem_cons_self ..)
    simp only [List.map_cons, List.sum_cons] at bound
    refine codeAny_builtin F.entry_sum_loop ?_
    rw [Around.under_plainId F.plain_sum_loop _]
    show wpAny _ A.in1 (seqItems? (.ref S) >>= _) _ _ s
    refine wpAny_bind (wpAny_seqItems hS rfl ?_)
    show wpAny _ A.in1 (tryCatch (pyNext (.ref I)) _ >>= _) _ _ s
    refine wpAny_bind (wpAny_tryCatch (wpAny_pyNext_list_item it hl hx fun h1 it1 sb => ?_))
    have k1 : ∀ a o, a ≠ I → s.heap.get? a = some o → h1.get? a = some o := fun a o ne e => (sb.2 a ne).trans e
    show wpAny _ A.in1 ((holding [Value.ref b] (binaryOp .Add (.ref t) (.ref b))).attempt >>= _) _ _ _
    refine wpAny_bind (wpAny_attempt (wpAny_holding (P.add_list (s := { s with heap := h1 }) (k1 t _ ntI ht) (k1 b _ nbI hb) ?_ (by simp only [List.size_toArray]; omega))))
    have eq : tot.toArray ++ ys.toArray = (tot ++ ys).toArray := by simp
    rw [eq]
    show wpAny _ A.in1 (updateSeq S (fun _ => #[.ref h1.objs.size]) >>= _) _ _ _
    have hS1 : IsL (h1.push { cls := .type "list", data := .seq (tot ++ ys).toArray }) S #[.ref t] c := Heap.get?_push_of_some _ (k1 S _ nSI hS)
    have lS1 := Heap.lt_size (k1 S _ nSI hS)
    refine wpAny_bind (wpAny_updateSeq hS1 rfl ?_)
    have hS2 := Heap.get?_update_self (Obj.mapSeq fun _ => #[Value.ref h1.objs.size]) hS1 rfl
    refine wpAny_bind (wpAny_letGo ?_)
    show wpAny _ A.in1 (updateSeq S (fun _ => #[.ref h1.objs.size]) >>= _) _ _ _
    refine wpAny_bind (wpAny_updateSeq hS2 rfl ?_)
    have hS3 := Heap.get?_update_self (Obj.mapSeq fun _ => #[Value.ref h1.objs.size]) hS2 rfl
    have sz : s.heap.objs.size ≤ h1.objs.size := Nat.le_of_eq sb.1.symm
    have keep : ∀ a o, a ≠ S → a ≠ I → s.heap.get? a = some o → ((((h1.push { cls := .type "list", data := .seq (tot ++ ys).toArray }).update S (Obj.mapSeq fun _ => #[Value.ref h1.objs.size])).update S (Obj.mapSeq fun _ => #[Value.ref h1.objs.size]))).get? a = some o := fun a o n1 n2 e =>
      (Heap.get?_update_other _ _ (Ne.symm n1)).trans ((Heap.get?_update_other _ _ (Ne.symm n1)).trans (Heap.get?_push_of_some _ (k1 a o n2 e)))
    have nt : h1.objs.size ≠ S := Nat.ne_of_gt lS1
    have nI : h1.objs.size ≠ I := by
      obtain ⟨oI, hI, _⟩ := it1
      exact Nat.ne_of_gt (Heap.lt_size hI)
    refine wpAny_pure ⟨plainId_quiet F.plain_sum_loop _, sum_go hh nSI nSl nlI rest (i + 1) _ h1.objs.size (tot ++ ys) 0 _ dr2 lt ?_ ?_ hS3 ?_ (fun z hz => ?_) nt nI (fun z hz => nr z (List.mem_cons_of_mem _ hz)) (by rw [List.length_append]; omega) fun h' tk t' k hL kk e1 e2 => ?_⟩
    · exact it1.at fun o e => (Heap.get?_update_other _ _ nSI).trans ((Heap.get?_update_other _ _ nSI).trans (Heap.get?_push_of_some _ e))
    · exact hl.at fun o e => keep l o (Ne.symm nSl) nlI e
    · exact (Heap.get?_update_other _ _ (Ne.symm nt)).trans ((Heap.get?_update_other _ _ (Ne.symm nt)).trans (Heap.get?_push_size _ rfl))
    · obtain ⟨kz, hz2⟩ := hr z (List.mem_cons_of_mem _ hz)
      obtain ⟨n1, n2⟩ := nr z (List.mem_cons_of_mem _ hz)
      exact ⟨kz, keep _ _ n1 n2 hz2⟩
    · refine q h' tk t' k ?_ (fun a o n1 n2 e => kk a o n1 n2 (keep a o n1 n2 e)) (fun h => nomatch h) fun _ => ?_
      · rw [List.map_cons, List.flatten_cons, ← List.append_assoc]; exact hL
      · by_cases hrest : rest = []
        · rw [e1 hrest]; exact sz
        · refine Nat.le_trans sz (Nat.le_trans ?_ (e2 hrest))
          rw [Heap.size_update, Heap.size_update, Heap.size_push]
          exact Nat.le_succ _
end
end FR
set_option Elab.async false
set_option linter.all false
set_option maxRecDepth 100000
set_option maxHeartbeats 4000000
/-! sum(lists, start=[]) -/
namespace FR
open PySem PySem.Spec PyProof.Rows
section
variable {prog : Program} {w : World} {A : Around} {E : Value → Shared → Prop} {s : Shared}
theorem sum_args (a b : Value) : argsOk "sum" ⟨[a], [(Str.ofString "start", b)]⟩ := by unfold argsOk; kernel_rfl
theorem sum_check (a b : Value) : checkBuiltinCall "sum" ⟨[a], [(Str.ofString "start", b)]⟩ = pure () := by
  have ha := sum_args a b
  simp only [checkBuiltinCall, F.kind_sum]
  cases hsig : Manifest.signature? "sum" with
  | none => rfl
  | some sig =>
    simp only [argsOk, hsig] at ha
    exact ha
theorem call_sum_lists {l z : Addr} {items : Array Value} {nz : Nat} {rest : List (Addr × List Value)} {Q : Value → Shared → Prop} (hh : A.handled = none) (hl : s.heap.IsList l items) (hi : items.toList = rest.map fun q => Value.ref q.1) (hz : IsL s.heap z #[] nz)
    (hr : ∀ q ∈ rest, ∃ k, IsL s.heap q.1 q.2.toArray k) (ne : rest ≠ []) (bound : (rest.map (·.2.length)).sum ≤ sizeLine)
    (h : ∀ (h' : Heap) (tk : Nat) (t : Addr) (k : Nat), IsL h' t ((rest.map (·.2)).flatten).toArray k → (∀ b o, s.heap.get? b = some o → h'.get? b = some o) → s.heap.objs.size ≤ t → Q (.ref t) { s with heap := h', toks := tk }) :
    wpAny (model prog w) A (call (.builtin "sum") [.ref l] [(Str.ofString "start", .ref z)]) Q E s := by
  refine wpAny_call (codeAny_call_builtin F.plain_sum F.entry_sum ?_)
  show wpAny _ _ (checkBuiltinCall "sum" ⟨[.ref l], [(Str.ofString "start", .ref z)]⟩) _ _ s
  rw [sum_check]
  refine wpAny_pure ?_
  unfold Builtin.«sum»
  simp only [List.length_cons, List.length_nil]
  rw [if_neg (by decide)]
  refine wpAny_bind (wpAny_of_eq (show Builtin.Builtins.bindParams "sum" ["start"] 0 ⟨[], [(Str.ofString "start", Value.ref z)]⟩ = pure [some (.ref z)] from rfl) ?_)
  refine wpAny_bind (wpAny_pyIter_list hl ?_)
  refine wpAny_bind (wpAny_pure ?_)
  have hz1 : IsL (s.heap.push { cls := .type "list_iterator", data := .fields #[.ref l, .int 0 0] }) z #[] nz := hz.push _
  have tz : Shared.TypeIs { s with heap := s.heap.push { cls := .type "list_iterator", data := .fields #[.ref l, .int 0 0] } } (.ref z) "list" := ⟨_, hz1, rfl⟩
  simp only [List.forIn_cons, List.forIn_nil]
  refine wpAny_bind (wpAny_bind (wpAny_bind (wpAny_isInstance (T := "list") (b := false) tz F.sub_list_str ?_)))
  simp only [Bool.false_eq_true, if_false]
  refine wpAny_pure (wpAny_bind (wpAny_bind (wpAny_isInstance (T := "list") (b := false) tz F.sub_list_bytes ?_)))
  simp only [Bool.false_eq_true, if_false]
  refine wpAny_pure (wpAny_bind (wpAny_bind (wpAny_isInstance (T := "list") (b := false) tz F.sub_list_bytearray ?_)))
  simp only [Bool.false_eq_true, if_false]
  refine wpAny_pure (wpAny_pure ?_)
  refine wpAny_bind (wpAny_newObj_type ?_)
  have hl1 := hl.push { cls := .type "list_iterator", data := .fields #[.ref l, .int 0 0] }
  have sz1 : (s.heap.push { cls := .type "list_iterator", data := .fields #[.ref l, .int 0 0] }).objs.size = s.heap.objs.size + 1 := Heap.size_push ..
  have ll : l < s.heap.objs.size := by obtain ⟨o, ho, _⟩ := hl; exact Heap.lt_size ho
  have lz : z < s.heap.objs.size := Heap.lt_size hz
  refine wpAny_pure ⟨plainId_quiet F.plain_sum_loop _, sum_go (I := s.heap.objs.size) (S := (s.heap.push { cls := .type "list_iterator", data := .fields #[.ref l, .int 0 0] }).objs.size) (l := l) (items := items) hh
    (by rw [sz1]; exact Nat.succ_ne_self _) (by rw [sz1]; exact Nat.ne_of_gt (Nat.lt_succ_of_lt ll)) (Nat.ne_of_lt ll) rest 0 _ z [] nz 0 (by rw [List.drop_zero]; exact hi) (Nat.zero_le _)
    ⟨_, Heap.get?_push_of_some _ (Heap.get?_push_size _ rfl), rfl, rfl⟩ (hl1.push _) (Heap.get?_push_size _ rfl) (by simpa using hz1.push _) (fun q hq => ?_) (by rw [sz1]; exact Nat.ne_of_lt (Nat.lt_succ_of_lt lz)) (Nat.ne_of_lt lz) (fun q hq => ?_) (by simpa using bound) fun h' tk t k hL kk e1 e2 => ?_⟩
  · obtain ⟨k, hk⟩ := hr q hq
    exact ⟨k, (hk.push _).push _⟩
  · obtain ⟨k, hk⟩ := hr q hq
    have lq := Heap.lt_size hk
    exact ⟨by rw [sz1]; exact Nat.ne_of_lt (Nat.lt_succ_of_lt lq), Nat.ne_of_lt lq⟩
  · refine h h' tk t k (by simpa using hL) (fun b o e => ?_) ?_
    · have lb := Heap.lt_size e
      exact kk b o (by rw [sz1]; exact Nat.ne_of_lt (Nat.lt_succ_of_lt lb)) (Nat.ne_of_lt lb) (Heap.get?_push_of_some _ (Heap.get?_push_of_some _ e))
    · have := e2 ne
      refine Nat.le_trans ?_ this
      show s.heap.objs.size ≤ Array.size _
      rw [Heap.size_push, sz1]
      omega
end
section
open L2
variable {X : Cx}
theorem lists_of {pins : List (Addr × Obj)} {σ : L2.St} {H : Hp} {s : Shared} (I : Inv X pins σ H s) : ∀ ps : List (Addr × List V), (∀ p ∈ ps, H p.1 = some (.lst p.2)) →
    ∃ rest : List (Addr × List Value), rest.map (fun q => Value.ref q.1) = ps.map (fun q => Value.ref q.1) ∧ Vals (ps.map (·.2)).flatten (rest.map (·.2)).flatten ∧ (∀ q ∈ rest, ∃ k, IsL s.heap q.1 q.2.toArray k) ∧ rest.map (·.2.length) = ps.map (·.2.length)
  | [], _ => ⟨[], rfl, .nil, (fun q h => absurd h List.not_mem_nil), rfl⟩
  | (a, xs) :: ps, h => by
    obtain ⟨rest, e1, e2, e3, e4⟩ := lists_of I ps fun p hp => h p (List.mem_cons_of_mem _ hp)
    obtain ⟨_, its, n, r, hl, e⟩ := I.lstM (h (a, xs) (List.mem_cons_self ..))
    refine ⟨(a, its) :: rest, by rw [List.map_cons, List.map_cons, e1], by rw [List.map_cons, List.map_cons, List.flatten_cons, List.flatten_cons]; exact r.append e2, fun q hq => ?_, by rw [List.map_cons, List.map_cons, e4]; show its.length :: _ = xs.length :: _; rw [hl]⟩
    rcases List.mem_cons.mp hq with rfl | m
    · exact ⟨n, e⟩
    · exact e3 q m
def rSumL (K : PySem.W.Frag) : List V → List V → Hp → VK → Prop := fun vs zs H Q => ∃ (a z : Addr) (ps : List (Addr × List V)), vs = [.ref a] ∧ zs = [.ref z] ∧ SqL K H a (ps.map fun p => V.ref p.1) ∧ H z = some (.lst []) ∧ (∀ p ∈ ps, H p.1 = some (.lst p.2)) ∧ ps ≠ [] ∧ (ps.map (·.2.length)).sum ≤ 4000 ∧
  ∀ t, H t = none → Q (.ref t) (upd H t (.lst (ps.map (·.2)).flatten))
theorem cr_sumL (hc : X.calm = true) : CallRK X (.builtin "sum") [Str.ofString "start"] (rSumL X.K) := by
  intro pins s σ H vs zs us ws Q I r rz h
  obtain ⟨a, z, ps, rfl, rfl, hs, hz, hp, ne, b, q⟩ := h
  obtain rfl := Vals.ref1 r
  obtain rfl := Vals.ref1 rz
  obtain ⟨its, rv, hl, _⟩ := I.list hs
  obtain ⟨rest, e1, e2, e3, e4⟩ := lists_of I ps hp
  obtain ⟨_, iz, nz, rz0, lz, ez⟩ := I.lstM hz
  have iz0 : iz = [] := List.length_eq_zero_iff.mp lz.symm
  subst iz0
  have ie : its = rest.map fun q => Value.ref q.1 := by
    rw [e1]
    have : ∀ (qs : List (Addr × List V)) (us : List Value), Vals (qs.map fun p => V.ref p.1) us → us = qs.map fun q => Value.ref q.1 := fun qs => by
      induction qs with
      | nil => intro us h; cases h; rfl
      | cons p t ih =>
        intro us h
        rw [List.map_cons] at h
        cases h with
        | cons r1 rr => rw [List.map_cons, ih _ rr]; cases r1; rfl
    exact this ps its rv
  have len : ((ps.map (·.2)).flatten).length ≤ sizeLine := by
    rw [List.length_flatten, List.map_map]
    exact Nat.le_trans b (by decide)
  show wpAny _ _ (call (.builtin "sum") [.ref a] [(Str.ofString "start", .ref z)]) _ _ _
  refine call_sum_lists (rest := rest) (I.ok.hd hc) hl.isList (by simpa using ie) ez e3 (fun e => ne ?_) (by rw [e4]; exact Nat.le_trans b (by decide)) fun h' tk t k hL kk hge => ?_
  · rw [e] at e1
    exact List.map_eq_nil_iff.mp e1.symm
  · have hn : H t = none := I.hok.fresh hge
    have J : Inv X pins σ (upd H t (.lst (ps.map (·.2)).flatten)) { s with heap := h', toks := tk } := I.laid (t' := tk) kk hge ⟨len, _, k, e2, hL⟩
    exact ⟨.ref t, _, J, rfl, q t hn⟩
end
end FR
set_option Elab.async false
set_option linter.all false
set_option maxRecDepth 100000
set_option maxHeartbeats 4000000
/-! == of dicts whose values are data; a method called by keywords; `in` within a block -/
namespace FR
open PySem PySem.Spec PyProof.Rows L2
def valD (ns : List (Key × PyData)) (k : Key) : Option PyData := (ns.find? fun q => decide (q.1 = k)).map (·.2)
def hitsD (ns : List (Key × PyData)) : List (Key × PyData) → Bool
  | [] => true
  | (k, d) :: r => match valD ns k with
    | none => false
    | some e => PyData.eqv d e && hitsD ns r
def eqDD (ms ns : List (Key × PyData)) : Bool := ms.length == ns.length && hitsD ns ms
/-- a dict's entries, their values data -/
def DpK (K : PySem.W.Frag) (H : Hp) : List (Key × V) → List (Key × PyData) → Prop := Paired fun kv m => kv.1 = m.1 ∧ Dp K H kv.2 m.2 ∧ SeqAt.shaped m.2 = true
theorem dpK_val {K : PySem.W.Frag} {H : Hp} {ks : List (Key × V)} {ms : List (Key × PyData)} (h : DpK K H ks ms) (k : Key) : (valV ks k = none ∧ valD ms k = none) ∨ ∃ v d, valV ks k = some v ∧ valD ms k = some d ∧ Dp K H v d ∧ SeqAt.shaped d = true := by
  induction h with
  | nil => exact .inl ⟨rfl, rfl⟩
  | @cons p m r t h hr ih =>
    obtain ⟨e, hd, hs⟩ := h
    by_cases c : p.1 = k
    · refine .inr ⟨p.2, m.2, valV_pos c, ?_, hd, hs⟩
      unfold valD
      rw [List.find?_cons_of_pos (by rw [← e]; exact decide_eq_true c)]; rfl
    · rw [valV_neg c]
      have : valD (m :: t) k = valD t k := by
        unfold valD
        rw [List.find?_cons_of_neg (by rw [← e]; simpa using c)]
      rw [this]
      exact ih
section
variable {X : Cx}
theorem hits_dd {A : Around} {pins : List (Addr × Obj)} {σ : L2.St} {H : Hp} {s : Shared} (I : Inv X pins σ H s) (hu : A.units + 64 < cLine) {ls : List (Key × V)} {ns : List (Key × PyData)} {vb : List (Key × Value)} (hb : DpK X.K H ls ns) (rb : KV ls vb) :
    ∀ {ks : List (Key × V)} {ms : List (Key × PyData)} {va : List (Key × Value)}, DpK X.K H ks ms → KV ks va → PySem.W.KeqHits A s vb va (hitsD ns ms)
  | _, _, _, .nil, .nil => .nil
  | (k, v) :: _, (k', d) :: ms, (k2, u) :: va, .cons h hr, .cons r rr => by
    obtain ⟨e, hd, hs⟩ := h
    obtain ⟨e2, rv⟩ := r
    obtain rfl : k = k' := e
    obtain rfl : k = k2 := e2
    have q := rb.val k
    rcases dpK_val hb k with ⟨h1, h2⟩ | ⟨v', d', h1, h2, hd', hs'⟩
    · rw [h1] at q
      have none2 : valueAt vb k = none := by
        cases z : valueAt vb k with
        | none => rfl
        | some y => rw [z] at q; exact q.elim
      show PySem.W.KeqHits A s vb ((k, u) :: va) (match valD ns k with | none => false | some e => PyData.eqv d e && hitsD ns ms)
      rw [h2]
      exact .miss none2
    · rw [h1] at q
      cases z : valueAt vb k with
      | none => rw [z] at q; exact q.elim
      | some y =>
        rw [z] at q
        show PySem.W.KeqHits A s vb ((k, u) :: va) (match valD ns k with | none => false | some e => PyData.eqv d e && hitsD ns ms)
        rw [h2]
        obtain ⟨as, r1⟩ := Dp.reads I d v u hd rv
        obtain ⟨bs, r2⟩ := Dp.reads I d' v' y hd' q
        exact .hit z (SeqAt.eqAt_reads d d' A s u y as bs r1 r2 (SeqAt.canLay_of_shaped hs) (SeqAt.canLay_of_shaped hs') (SeqAt.room_of_shaped hs hu)) (hits_dd I hu hb rb hr rr)
def rDD (K : PySem.W.Frag) (neg : Bool) : R2 := fun x y H Q => ∃ a b ks ls ms ns, x = .ref a ∧ y = .ref b ∧ Rd H a (.dK ks) ∧ Rd H b (.dK ls) ∧ DpK K H ks ms ∧ DpK K H ls ns ∧ Q (.bl (neg != eqDD ms ns)) H
theorem op_eqDD (hu : X.A.units + 65 < cLine) : OpR X (compareOp .Eq) (rDD X.K false) := by
  intro pins s σ H x y v u Q I rx ry h
  obtain ⟨a, b, ks, ls, ms, ns, rfl, rfl, ea, eb, hm, hn, q⟩ := h
  obtain rfl : v = Value.ref a := rx
  obtain rfl : u = Value.ref b := ry
  obtain ⟨_, ya, va, ra, da⟩ := dk_rd I.hok ea
  obtain ⟨_, yb, vb, rb, db⟩ := dk_rd I.hok eb
  refine PySem.W.keq_eq (knd := mixKind X.prog X.w) (r := hitsD ns ms) ya yb da db (by omega) (fun _ => hits_dd I (by simp; omega) hn rb hm ra) ⟨.bl _, H, I, rfl, ?_⟩
  have l1 : va.length = ms.length := ra.length.symm.trans (Paired.length hm)
  have l2 : vb.length = ns.length := rb.length.symm.trans (Paired.length hn)
  rw [l1, l2]
  have e : (false != eqDD ms ns) = (ms.length == ns.length && hitsD ns ms) := by
    show (false != eqDD ms ns) = eqDD ms ns
    cases eqDD ms ns <;> rfl
  rw [← e]
  exact q
theorem op_neDD (hu : X.A.units + 65 < cLine) : OpR X (compareOp .NotEq) (rDD X.K true) := by
  intro pins s σ H x y v u Q I rx ry h
  obtain ⟨a, b, ks, ls, ms, ns, rfl, rfl, ea, eb, hm, hn, q⟩ := h
  obtain rfl : v = Value.ref a := rx
  obtain rfl : u = Value.ref b := ry
  obtain ⟨_, ya, va, ra, da⟩ := dk_rd I.hok ea
  obtain ⟨_, yb, vb, rb, db⟩ := dk_rd I.hok eb
  refine PySem.W.keq_ne (knd := mixKind X.prog X.w) (r := hitsD ns ms) ya yb da db (by omega) (fun _ => hits_dd I (by simp; omega) hn rb hm ra) ⟨.bl _, H, I, rfl, ?_⟩
  have l1 : va.length = ms.length := ra.length.symm.trans (Paired.length hm)
  have l2 : vb.length = ns.length := rb.length.symm.trans (Paired.length hn)
  rw [l1, l2]
  have e : (true != eqDD ms ns) = (!(ms.length == ns.length && hitsD ns ms)) := by
    show (true != eqDD ms ns) = !eqDD ms ns
    cases eqDD ms ns <;> rfl
  rw [← e]
  exact q
theorem op_inTK {K : PySem.W.Frag} (hK : X.K = K) (hu : X.A.units + 65 < cLine) : OpR X (compareOp .In) (rInT K) := hK ▸ op_inT hu
end
section
variable {X : Cx} {o : Expr} {kws : List Keyword} {ta : TE} {tk : TA} {C f : Addr} {m : Str} {k : Nat} {fd : FuncData} {ps ks : List Str} {sp : Sp} {CX : CXT} {E : XK} {g : List Value → List Value → List Value} {gV : List V → List V → List V} {apos pos : Pos}
def tMethK (C : Addr) (m : Str) (nk : Nat) (sp : Sp) (gV : List V → List V → List V) (E : XK) (ta : TE) (tk : TA) : TE := fun σ H Q => ta σ H fun x H1 => ∃ a dx fs, x = .ref a ∧ H1 a = some (.ins C dx fs) ∧ fs.lookup m = none ∧ tk σ H1 fun zs H2 => zs.length = nk ∧ sp (gV [x] zs) H2 Q E
/-- o.m(k = v, ..) -/
theorem pe_methK0 {pl : Sem Bool} (he : PE X o ta) (c : Cls X.K C) (hm : Meth X.K C m f) (F : FnOk X.prog X.w X.K X.mg X.base CX k f fd ps sp) (hr : Room k X.A) (hb : KBn X.K fd ps 1 ks g gV) (hx : Passes CX X E) (hkw : PK X kws tk)
    (hall : (backToKw pos (keywordEach kws X.env)).all (·.1.isSome) = true := by rfl) (hks : (backToKw pos (keywordEach kws X.env)).filterMap (·.1) = ks := by rfl)
    (hpl : ((backTo pos (starEach [] X.env)).any (·.1) || (backToKw pos (keywordEach kws X.env)).any (·.1.isNone)) = false := by rfl)
    (ht : eval (.Call (.Attribute o m apos) [] kws pos) X.env = (do
      let ov ← eval o X.env
      standAt apos.atName
      let (f, first) ← holding [ov] (getMethod ov m pl)
      callWith pos f first (backTo pos (starEach [] X.env)) (backToKw pos (keywordEach kws X.env))) := by rfl) :
    PE X (.Call (.Attribute o m apos) [] kws pos) (tMethK C m ks.length sp gV E ta tk) := by
  refine ⟨fun pins s σ H Q I h => ?_⟩
  refine PySem.W.methodCall_KW (pl := pl) (thn (he.run pins s σ H _ I h) fun u s1 ⟨x, H1, I1, rx, a, dx, fs, ex, ea, l, q⟩ => ?_) ht
  subst ex
  obtain rfl : u = Value.ref a := rx
  refine getmeth_ok I1 ea c hm l ?_
  refine PySem.W.callWith_KW0 (h₀ := X.base) (first := [.ref a]) I1.ok.mod.kin hm.kp hall ?_ hpl
  refine thn (hkw.run pos pins s1 σ H1 _ I1 q) fun ws s2 ⟨zs, H2, I2, rz, l2, q2⟩ => ⟨I2.kIn, ?_⟩
  rw [hks]
  exact run_fnN (us := [.ref a]) (vs := [.ref a]) F hr hb hx I2 (.cons rfl .nil) rz rfl l2 q2
end
end FR
set_option Elab.async false
set_option linter.all false
set_option maxRecDepth 100000
/-! texts in order: one order alone -/
namespace FR
open PySem PySem.Spec PyProof.Rows
/-- a stands no later than b -/
def leS (a b : Str) : Prop := ltCps b.cps.toList a.cps.toList = false
theorem lt_trans' : ∀ {a b c : List Nat}, ltCps b a = false → ltCps c b = false → ltCps c a = false
  | [], [], [], _, _ => rfl
  | [], [], _ :: _, _, _ => rfl
  | [], _ :: _, [], _, h => by simp [ltCps] at h
  | [], _ :: _, _ :: _, _, _ => rfl
  | _ :: _, [], _, h, _ => by simp [ltCps] at h
  | _ :: _, _ :: _, [], _, h => by simp [ltCps] at h
  | x :: r, y :: t, z :: u, h1, h2 => by
    simp only [ltCps, Bool.or_eq_false_iff, decide_eq_false_iff_not, Bool.and_eq_false_iff, beq_eq_false_iff_ne, Nat.not_lt] at h1 h2 ⊢
    refine ⟨by omega, ?_⟩
    by_cases e : z = x
    · have e1 : y = x := by omega
      have e2 : z = y := by omega
      refine .inr (lt_trans' (h1.2.resolve_left fun n => n e1) (h2.2.resolve_left fun n => n e2))
    · exact .inl e
theorem lt_anti : ∀ {a b : List Nat}, ltCps b a = false → ltCps a b = false → a = b
  | [], [], _, _ => rfl
  | [], _ :: _, _, h => by simp [ltCps] at h
  | _ :: _, [], h, _ => by simp [ltCps] at h
  | x :: r, y :: t, h1, h2 => by
    simp only [ltCps, Bool.or_eq_false_iff, decide_eq_false_iff_not, Bool.and_eq_false_iff, beq_eq_false_iff_ne, Nat.not_lt] at h1 h2
    have e : x = y := by omega
    rw [e, lt_anti (h1.2.resolve_left fun n => n e.symm) (h2.2.resolve_left fun n => n e)]
theorem leS_anti {a b : Str} (h1 : leS a b) (h2 : leS b a) : a = b := by
  obtain ⟨⟨x⟩⟩ := a
  obtain ⟨⟨y⟩⟩ := b
  have := lt_anti h1 h2
  simp only at this
  rw [this]
theorem rising_pair : ∀ {p : Str} {l : List Str}, risingS p l = true → (p :: l).Pairwise leS
  | p, [], _ => by simp
  | p, x :: r, h => by
    simp only [risingS, Bool.and_eq_true, Bool.not_eq_true'] at h
    have ih := rising_pair h.2
    refine List.pairwise_cons.mpr ⟨fun y hy => ?_, ih⟩
    rcases List.mem_cons.mp hy with rfl | m
    · exact h.1
    · exact lt_trans' h.1 ((List.pairwise_cons.mp ih).1 y m)
theorem sorted_pair : ∀ {l : List Str}, sortedS l = true → l.Pairwise leS
  | [], _ => .nil
  | x :: r, h => rising_pair h
theorem sorted_one {xs ys : List Str} (h1 : sortedS xs = true) (h2 : sortedS ys = true) (p : xs.Perm ys) : xs = ys :=
  p.eq_of_pairwise (fun a b _ _ h h' => leS_anti h h') (sorted_pair h1) (sorted_pair h2)
/-- the texts in order -/
noncomputable def srt (xs : List Str) : List Str := open Classical in if h : ∃ ys : List Str, ys.Perm xs ∧ sortedS ys = true then Classical.choose h else []
theorem srt_eq {xs ys : List Str} (p : ys.Perm xs) (h : sortedS ys = true) : ys = srt xs := by
  unfold srt
  have e : ∃ ys : List Str, ys.Perm xs ∧ sortedS ys = true := ⟨ys, p, h⟩
  rw [dif_pos e]
  have c := Classical.choose_spec e
  exact sorted_one h c.2 (p.trans c.1.symm)
theorem srt_perm {xs ys zs : List Str} (p : ys.Perm xs) (h : sortedS ys = true) (q : xs.Perm zs) : srt xs = srt zs := by
  rw [← srt_eq p h, ← srt_eq (p.trans q) h]
section
open L2
variable {X : Cx} {tg : Expr}
def iSeq (K : PySem.W.Frag) (tl : TE) : TI := fun σ H R => tl σ H fun x H1 => ∃ a, x = .ref a ∧ ((∃ xs, SqL K H1 a xs ∧ R (Itl K a) H1) ∨ ∃ xs, SqT K H1 a xs ∧ R (Itt K a) H1)
/-- a list or a tuple, walked -/
theorem pi_seq {l : Expr} {tl : TE} (hl : PE X l tl) : PI X tg l (iSeq X.K tl) := by
  refine ⟨fun pins s σ H R I h => ?_⟩
  refine thn (hl.run pins s σ H _ I h) fun v s1 ⟨x, H1, I1, r1, q1⟩ => ?_
  obtain ⟨a, rfl, ⟨xs, hq, q⟩ | ⟨xs, hq, q⟩⟩ := q1
  · cases r1
    obtain ⟨its, rv, p, hz⟩ := I1.list hq
    exact wpAny_pyIter_list p.isList (pi_one I1 _ (turn_list a _) ⟨_, Heap.get?_push_size _ rfl, rfl, rfl⟩ q)
  · cases r1
    obtain ⟨its, rv, p, hz⟩ := I1.tuple hq
    exact wpAny_pyIter_tuple (show s1.heap.IsTuple a its.toArray from p) (pi_one I1 _ (turn_tuple a _) ⟨_, Heap.get?_push_size _ rfl, rfl, rfl⟩ q)
variable {J : It} {n : Nat} {G : Hp → Prop} {Y : Nat → Hp → V → Hp → Prop}
theorem round_it (w : Walk J n G Y) {g : TG} {σ0 : L2.St} {B : L2.St → Hp → (Hp → Prop) → Prop} {Qd : Hp → Prop} (Pv : Nat → Hp → Prop) (hG : ∀ i H, i ≤ n → Pv i H → G H)
    (hs : ∀ i x H H', i < n → Pv i H → Y i H x H' → g x σ0 H' fun σ2 H2 => B σ2 H2 (Pv (i + 1))) (hd : ∀ H, Pv n H → Qd H) : Round J g σ0 B Qd (fun i m H => m = n - i ∧ i ≤ n ∧ Pv i H) := by
  rintro i m H ⟨rfl, hi, p⟩
  have q := hG i H hi p
  by_cases lt : i < n
  · exact .inr ⟨w.goes i H lt q, Pv (i + 1), fun H' p' => ⟨n - (i + 1), by omega, rfl, lt, p'⟩, fun x H' y => hs i x H H' lt p (w.yields i H x H' lt q y)⟩
  · have e : i = n := by omega
    subst e
    exact .inl ⟨w.stops H q, hd H p⟩
theorem dc_it (w : Walk J n G Y) {g : TG} {tt : TT} {tk tv : TE} {vs : List Nat} {σ : L2.St} {H1 : Hp} {D : Addr} {Qd : Hp → Prop} (Pv : Nat → Hp → Prop) (h0 : Pv 0 (upd H1 D (.dK []))) (hG : ∀ i H, i ≤ n → Pv i H → G H)
    (hs : ∀ i x H H', i < n → Pv i H → Y i H x H' → g x (wipe σ vs) H' fun σ2 H2 => wipe σ2 vs = wipe σ vs ∧ tt σ2 H2 fun b H3 =>
      if b = true then tk σ2 H3 fun y H4 => tv σ2 H4 fun z H5 => ∃ kvs k, y = kV k ∧ H5 D = some (.dK kvs) ∧ kvs.length < sizeLine ∧ Pv (i + 1) (upd H5 D (.dK (putK kvs k z))) else Pv (i + 1) H3) (hd : ∀ H, Pv n H → Qd H) :
    ∃ W : Nat → Nat → Hp → Prop, (∃ m, W 0 m (upd H1 D (.dK []))) ∧ ∀ i m H, W i m H →
      (J.stop i H ∧ Qd H) ∨ (J.go i H ∧ ∃ Nx : Hp → Prop, (∀ H', Nx H' → ∃ m', m' < m ∧ W (i + 1) m' H') ∧ ∀ x H', J.yld i H x H' → g x (wipe σ vs) H' fun σ2 H2 => wipe σ2 vs = wipe σ vs ∧ tt σ2 H2 fun b H3 =>
        if b = true then tk σ2 H3 fun y H4 => tv σ2 H4 fun z H5 => ∃ kvs k, y = kV k ∧ H5 D = some (.dK kvs) ∧ kvs.length < sizeLine ∧ Nx (upd H5 D (.dK (putK kvs k z))) else Nx H3) :=
  ⟨fun i m H => m = n - i ∧ i ≤ n ∧ Pv i H, ⟨n, by simp, Nat.zero_le _, h0⟩, fun i m H ⟨e, hi, p⟩ => by
    subst e
    have q := hG i H hi p
    by_cases lt : i < n
    · exact .inr ⟨w.goes i H lt q, Pv (i + 1), fun H' p' => ⟨n - (i + 1), by omega, rfl, lt, p'⟩, fun x H' y => hs i x H H' lt p (w.yields i H x H' lt q y)⟩
    · have e : i = n := by omega
      subst e
      exact .inl ⟨w.stops H q, hd H p⟩⟩
/-- a lock taken off again leaves nothing -/
theorem keep_lock {H H' : Hp} {d : Addr} {u : HO} {od : Obj} {M : List Addr} (hd : H d = some u) (k : Keep M (upd H d (.frz od u)) H') : Keep M H (upd H' d u) := fun b o e hb => by
  by_cases c : b = d
  · subst c
    rw [upd_same]
    rw [hd] at e
    exact e
  · rw [upd_ne c]
    exact k b o (by rw [upd_ne c]; exact e) hb
end
end FR
set_option Elab.async false
set_option linter.all false
set_option maxRecDepth 100000
/-! rules for within a block: the written part of the context is given by hand -/
namespace FR
open PySem PySem.Spec PyProof.Rows L2
section
variable {X : Cx} {K : PySem.W.Frag} {e : Expr} {f : Str} {pos : Pos} {ta : TE} {tg : Expr}
theorem pe_fldK (h : X.K = K) (he : PE X e ta) (hb : attributeBase e f X.env (eval e X.env) = eval e X.env) : PE X (.Attribute e f pos) (tFld K ta f) := h ▸ pe_fld he hb
theorem pi_tupK (h : X.K = K) (he : PE X e ta) : PI X tg e (iTup K ta) := h ▸ pi_tup he
theorem pi_listK (h : X.K = K) (he : PE X e ta) : PI X tg e (iList K ta) := h ▸ pi_list he
def rTupOf (K : PySem.W.Frag) : List V → Hp → VK → Prop := fun xs H Q => ∃ p ys, xs = [.ref p] ∧ ((SqL K H p ys ∧ ∀ l, H l = none → Q (.ref l) (upd H l (.tup ys))) ∨ (SqT K H p ys ∧ Q (.ref p) H))
theorem call_tuple_ofK (h : X.K = K) : CallR X (.type "tuple") (rTupOf K) := h ▸ call_tuple_of
theorem call_lofNK (h : X.K = K) : CallR X (.type "list") (rLofN K) := h ▸ call_lofN
end
end FR
set_option Elab.async false
set_option linter.all false
set_option maxRecDepth 100000
/-! x(..) where x is a local instance whose class has __call__ -/
namespace FR
open PySem PySem.Spec PyProof.Rows L2
theorem fn_of {K : PySem.W.Frag} {x qual : Str} {st : Stmt} {f : Addr} {fd : FuncData} (F : L2.Fun K x qual st f fd) : PySem.W.fnIn K f = true := by
  obtain ⟨oc, od, kV, doc, pm, an, cdv, ct, osl, e, lk, _⟩ := F.ex
  unfold PySem.W.fnIn
  rw [lk]
section
variable {M : Model} {A : Around} {E : Value → Shared → Prop} {s : Shared} {pos : Pos} {f : Value} {first : List Value} {Q : Value → Shared → Prop}
/-- a callee whose answer its caller keeps -/
theorem with_caller {args : List (Bool × Sem Value)} {keywords : List (Option Str × Sem Value)} (plain : (args.any (·.1) || keywords.any (·.1.isNone)) = false)
    (h : wpAny M A (evalArgs f true args keywords) (fun a t => PySem.W.Looks M t.heap (keeperOf f) .caller ∧ wpAny M A (call f (first ++ a.pos) a.kw) Q E t) E s) : wpAny M A (callWith pos f first args keywords) Q E s := by
  unfold callWith
  apply wpAny_bind
  apply wpAny_holding
  refine wpAny_mono h (fun a t z => ?_) (fun _ _ y => y)
  obtain ⟨L, z⟩ := z
  apply wpAny_bind
  apply wpAny_standAt
  simp only [plain]
  apply wpAny_bind
  refine L.here ?_
  dsimp only
  apply wpAny_bind
  refine wpAny_mono (wpAny_operateT z) (fun r u hr => ?_) (fun _ _ y => y)
  apply wpAny_bind
  apply wpAny_holding
  exact wpAny_point (wpAny_pure hr)
end
section
variable {X : Cx} {CX : CXT} {k n : Nat} {f C : Addr} {fd : FuncData} {ps ks : List Str} {sp : Sp} {dvs : List V} {ds : List Value} {E : XK} {x : Str} {p pos : Pos} {i : Nat} {e : Expr} {es : List Expr} {kws : List Keyword} {t tk : TA} {g : List Value → List Value → List Value} {gV : List V → List V → List V}
/-- the class at C has the def at f for its calls -/
structure CallsBy (K : PySem.W.Frag) (C f : Addr) : Prop where
  find : PySem.W.findIn K (.ref C) "__call__" = some (some (.ref f))
  isf : PySem.W.isFn K (.ref f) = true
  fnI : PySem.W.fnIn K f = true
def tInst (i : Nat) (C : Addr) (sp : Sp) (dvs : List V) (E : XK) (t : TA) : TE := fun σ H Q => ∃ a, σ[i]? = some (some (.ref a)) ∧ t σ H fun vs H1 => (∃ dx fs, H1 a = some (.ins C dx fs)) ∧ sp (.ref a :: (vs ++ dvs)) H1 Q E
def tInstK (i : Nat) (C : Addr) (m : Nat) (sp : Sp) (gV : List V → List V → List V) (E : XK) (tk : TA) : TE := fun σ H Q => ∃ a, σ[i]? = some (some (.ref a)) ∧ tk σ H fun zs H1 => (∃ dx fs, H1 a = some (.ins C dx fs)) ∧ zs.length = m ∧ sp (gV [.ref a] zs) H1 Q E
theorem pe_inst (hv : PE X (.Name x p) (tVar i)) (c : CallsBy X.K C f) (F : FnOk X.prog X.w X.K X.mg X.base CX k f fd ps sp) (hr : Room k X.A) (hb : Binds X.K fd ps ds) (hd : Vals dvs ds) (hx : Passes CX X E) (ha : PA X (e :: es) t)
    (he : starEach (e :: es) X.env = (false, eval e X.env) :: starEach es X.env := by rfl) (hpl : (backTo pos (starEach es X.env)).any (·.1) = false := by rfl) :
    PE X (.Call (.Name x p) (e :: es) [] pos) (tInst i C sp dvs E t) := by
  refine ⟨fun pins s σ H Q I h => ?_⟩
  obtain ⟨a, h1, h2⟩ := h
  refine wpAny_Call_Name_kw (thn (hv.run pins s σ H (fun v H' => v = .ref a ∧ t σ H' fun vs H1 => (∃ dx fs, H1 a = some (.ins C dx fs)) ∧ sp (.ref a :: (vs ++ dvs)) H1 Q E) I ⟨_, h1, rfl, h2⟩) fun u s1 hh => ?_)
  obtain ⟨v, H1, I1, r1, rfl, q⟩ := hh
  cases (show u = Value.ref a from r1)
  have run := ha.run pos pins s1 σ H1 _ I1 q
  rw [he] at run ⊢
  refine with_caller (by show ((false || (backTo pos (starEach es X.env)).any (·.1)) || false) = false; rw [hpl]; rfl) (PySem.Calls.evalArgs_plain ?_)
  refine wpAny_mono run (fun us s2 hz => ?_) (fun _ _ y => y)
  obtain ⟨vs, H2, I2, r2, ⟨dx, fs, ea⟩, q2⟩ := hz
  obtain ⟨od, J⟩ := ins_inst I2 ea
  refine ⟨PySem.W.kco_keeper J rfl, ?_⟩
  have r3 : Vals (.ref a :: (vs ++ dvs)) (.ref a :: (us ++ ds)) := .cons rfl (r2.append hd)
  have hl : ((Value.ref a :: us) ++ ds).length = ps.length := by rw [← F.len _ _ _ _ q2, r3.length]; rfl
  refine wpAny_call (PySem.W.kco_code I2.kIn J rfl c.find c.isf c.fnI (codeAny_mono (F.run X.A X.stack s2 H2 ⟨.ref a :: us, []⟩ (.ref a :: (us ++ ds)) (.ref a :: (vs ++ dvs)) Q E hr I2.env0 (hb s2 (.ref a :: us) I2.kIn hl) r3 q2) fun r s' hq => ?_))
  cases r with
  | error e => exact hx pins σ H2 s2 e s' I2 hq
  | ok fl =>
    cases fl with
    | ret u => exact I2.after hq
    | next => exact False.elim hq
    | brk => exact False.elim hq
    | cont => exact False.elim hq
theorem pe_instK (hv : PE X (.Name x p) (tVar i)) (c : CallsBy X.K C f) (F : FnOk X.prog X.w X.K X.mg X.base CX k f fd ps sp) (hr : Room k X.A) (hb : KBn X.K fd ps 1 ks g gV) (hx : Passes CX X E) (hkw : PK X kws tk)
    (hall : (backToKw pos (keywordEach kws X.env)).all (·.1.isSome) = true := by rfl) (hks : (backToKw pos (keywordEach kws X.env)).filterMap (·.1) = ks := by rfl)
    (hpl : ((backTo pos (starEach [] X.env)).any (·.1) || (backToKw pos (keywordEach kws X.env)).any (·.1.isNone)) = false := by rfl) :
    PE X (.Call (.Name x p) [] kws pos) (tInstK i C ks.length sp gV E tk) := by
  refine ⟨fun pins s σ H Q I h => ?_⟩
  obtain ⟨a, h1, h2⟩ := h
  refine wpAny_Call_Name_kw (thn (hv.run pins s σ H (fun v H' => v = .ref a ∧ tk σ H' fun zs H1 => (∃ dx fs, H1 a = some (.ins C dx fs)) ∧ zs.length = ks.length ∧ sp (gV [.ref a] zs) H1 Q E) I ⟨_, h1, rfl, h2⟩) fun u s1 hh => ?_)
  obtain ⟨v, H1, I1, r1, rfl, q⟩ := hh
  cases (show u = Value.ref a from r1)
  refine with_caller hpl (evalArgs_kw2_nil hall ?_)
  refine wpAny_mono (hkw.run pos pins s1 σ H1 _ I1 q) (fun ws s2 hz => ?_) (fun _ _ y => y)
  obtain ⟨zs, H2, I2, rz, ⟨dx, fs, ea⟩, l2, q2⟩ := hz
  obtain ⟨od, J⟩ := ins_inst I2 ea
  refine ⟨PySem.W.kco_keeper J rfl, ?_⟩
  rw [hks]
  have r1 : Vals [V.ref a] [Value.ref a] := .cons rfl .nil
  refine wpAny_call (PySem.W.kco_code I2.kIn J rfl c.find c.isf c.fnI (codeAny_mono (F.run X.A X.stack s2 H2 ⟨[.ref a], ks.zip ws⟩ (g [.ref a] ws) (gV [.ref a] zs) Q E hr I2.env0 (hb.to s2 [.ref a] ws I2.kIn rfl (rz.length.symm.trans l2)) (hb.rel r1 rz) q2) fun r s' hq => ?_))
  cases r with
  | error e => exact hx pins σ H2 s2 e s' I2 hq
  | ok fl =>
    cases fl with
    | ret u => exact I2.after hq
    | next => exact False.elim hq
    | brk => exact False.elim hq
    | cont => exact False.elim hq
end
end FR
set_option Elab.async false
set_option linter.all false
set_option maxRecDepth 100000
/-! == of two instances of one class that has no == of its own -/
namespace FR
open PySem PySem.Spec PyProof.Rows L2
section
variable {prog : Program} {w : World} {A : Around} {E : Value → Shared → Prop} {s : Shared} {K : PySem.W.Frag} {x y C : Addr} {ox oy : Obj} {od od' : Option Obj}
theorem call_objEq2 {Q : Value → Shared → Prop} (hxy : x ≠ y) (X : K.In s.heap) (I : PySem.W.InstAt s.heap x ox C od) (J : PySem.W.InstAt s.heap y oy C od') (hm : PySem.W.mroIn K C (.type "object") = some true) (hn : ox.cls ≠ .type "tuple") (hq : Q .notImplemented s) :
    wpAny (model prog w) A (call (.builtin "object.__eq__") [.ref x, .ref y]) Q E s := by
  refine wpAny_call (codeAny_call_builtin F.cmp_object.eq.plain F.cmpEntry_eq (PySem.W.check_slot F.cmpKind_eq F.cmpSplit_eq (I.type.andThen (PySem.W.looks_mroIn X hm)) (F.cmpArgs_eq _ _) ?_))
  unfold Builtin.«object.__eq__»
  repeat (first | with_reducible refine wpAny_isSame_ref_other hxy I.at_ J.at_ hn ?_ | wp_step)
  exact hq
theorem eq_insts {Q : Value → Shared → Prop} (hxy : x ≠ y) (hu : A.units < cLine) (X : K.In s.heap) (I : PySem.W.InstAt s.heap x ox C od) (J : PySem.W.InstAt s.heap y oy C od') (hm : PySem.W.mroIn K C (.type "object") = some true)
    (hs : PySem.W.findIn K (.ref C) "__eq__" = some (some (.builtin "object.__eq__"))) (hn : ox.cls ≠ .type "tuple") (hn' : oy.cls ≠ .type "tuple") (h : Q (.bool false) s) : wpAny (model prog w) A (richCompare .Eq (.ref x) (.ref y)) Q E s := by
  have one : wpAny (model prog w) A (tryCompare (.ref x) "__eq__" (.ref y)) (fun r s' => r = none ∧ s' = s) E s := by
    unfold tryCompare
    exact wpAny_bind (HN.ifBound_objEq X I hs (call_objEq2 hxy X I J hm hn (wpAny_pure ⟨rfl, rfl⟩)))
  have two : wpAny (model prog w) A (tryCompare (.ref y) "__eq__" (.ref x)) (fun r s' => r = none ∧ s' = s) E s := by
    unfold tryCompare
    exact wpAny_bind (HN.ifBound_objEq X J hs (call_objEq2 (Ne.symm hxy) X J I hm hn' (wpAny_pure ⟨rfl, rfl⟩)))
  simp only [richCompare, cmpInfo_Eq, oneThing_ref]
  refine wpAny_holding (wpAny_bind (wpAny_cRoomFor hu ?_))
  refine wpAny_bind (I.type.here (wpAny_bind (J.type.here ?_)))
  simp only [bne_self_eq_false, Bool.false_eq_true, if_false, Bool.not_false, if_true]
  refine wpAny_bind (wpAny_pure ?_)
  simp only [Bool.false_eq_true, if_false, Bool.not_false, if_true]
  refine wpAny_bind (m := tryCompare (.ref x) _ (.ref y)) (wpAny_mono one (fun r s1 z => ?_) fun _ _ e => e)
  obtain ⟨rfl, rfl⟩ := z
  refine wpAny_bind (m := tryCompare (.ref y) _ (.ref x)) (wpAny_mono two (fun r s2 z => ?_) fun _ _ e => e)
  obtain ⟨rfl, rfl⟩ := z
  exact wpAny_bind (wpAny_rule (wpAny_bind (wpAny_isSame_ref_other hxy I.at_ J.at_ hn (wpAny_pure h))))
end
section
variable {X : Cx} {C : Addr}
def rEqObj (C : Addr) : R2 := fun x y H Q => ∃ a dx fs b dy gs, x = .ref a ∧ y = .ref b ∧ a ≠ b ∧ H a = some (.ins C dx fs) ∧ H b = some (.ins C dy gs) ∧ Q (.bl false) H
theorem op_eqObj (hm : PySem.W.mroIn X.K C (.type "object") = some true) (hs : PySem.W.findIn X.K (.ref C) "__eq__" = some (some (.builtin "object.__eq__"))) (hu : X.A.units < cLine) : OpR X (compareOp .Eq) (rEqObj C) := by
  intro pins s σ H x y v u Q I rx ry h
  obtain ⟨a, dx, fs, b, dy, gs, rfl, rfl, ne, ha, hb, q⟩ := h
  cases (show v = Value.ref a from rx)
  cases (show u = Value.ref b from ry)
  obtain ⟨od, J⟩ := ins_inst I ha
  obtain ⟨od', J'⟩ := ins_inst I hb
  show wpAny _ _ (richCompare .Eq (.ref a) (.ref b)) _ _ _
  exact eq_insts ne hu I.kIn J J' hm hs (fun z => by cases z) (fun z => by cases z) ⟨.bl false, H, I, rfl, q⟩
end
end FR
set_option Elab.async false
set_option linter.all false
set_option maxRecDepth 100000
/-! a datum in a list of data, inside a comprehension -/
namespace FR
open PySem PySem.Spec PyProof.Rows L2
theorem op_inDK {X : Cx} {K : PySem.W.Frag} (hK : X.K = K) (hu : X.A.units + 65 < cLine) : OpR X (compareOp .In) (rInD K) := hK ▸ op_inD hu
end FR
set_option Elab.async false
set_option linter.all false
set_option maxRecDepth 100000
/-! C(..) in a try: what the __init__ lets out is taken at the slots of the moment -/
namespace FR
open PySem PySem.Spec PyProof.Rows L2
def tMakeS (C : Addr) (sp : Sp) (E : L2.St → XK) (t : TA) : TE := fun σ H Q => t σ H fun vs H1 =>
  ∀ x dx, H1 x = none → H1 dx = none → dx ≠ x → sp (.ref x :: vs) (upd (upd H1 dx (.own x)) x (.ins C dx [])) (fun v H2 => v = .non ∧ Q (.ref x) H2) (E σ)
section
variable {X : Cx} {CX : CXT} {k : Nat} {f C : Addr} {fd : FuncData} {ps : List Str} {sp : Sp} {E : L2.St → XK} {x : Str} {p pos : Pos} {e : Expr} {es : List Expr} {t : TA}
theorem pe_makeS (M : Mk X.K C f) (F : FnOk X.prog X.w X.K X.mg X.base CX k f fd ps sp) (hr : Room (k + 1) X.A) (hg : Gl X x) (hm : X.mg x = some (.ref C)) (hb : Binds X.K fd ps []) (hx : ∀ σ, PassesAt CX X σ (E σ)) (ha : PA X (e :: es) t)
    (hdb : (x == ("__debug__" : Str)) = false := by decide)
    (he : starEach (e :: es) X.env = (false, eval e X.env) :: starEach es X.env := by rfl)
    (hpl : (backTo pos (starEach es X.env)).any (·.1) = false := by rfl) : PE X (.Call (.Name x p) (e :: es) [] pos) (tMakeS C sp E t) := by
  refine ⟨fun pins s σ H Q I h => wpAny_Call_Name_kw (ld_glob I hg hm ?_ hdb)⟩
  refine PySem.W.callWith_K (h₀ := X.base) I.ok.mod.kin M.kp (thn (ha.run pos pins s σ H _ I h) fun us s1 hh => ?_) he hpl
  obtain ⟨vs, H1, I1, rv, z⟩ := hh
  refine ⟨I1.kIn, ?_⟩
  have z0 := z (s1.heap.objs.size + 1) s1.heap.objs.size (I1.hok.fresh (Nat.le_succ _)) (I1.hok.fresh (Nat.le_refl _)) (Nat.ne_of_lt (Nat.lt_succ_self _))
  have I2 := Inv.made (C := C) I1
  have r2 : Vals (V.ref (s1.heap.objs.size + 1) :: vs) (Value.ref (s1.heap.objs.size + 1) :: us) := .cons rfl rv
  have hl : (Value.ref (s1.heap.objs.size + 1) :: us).length = ps.length := by
    rw [← r2.length]
    exact F.len _ _ _ _ z0
  have b := hb _ (Value.ref (s1.heap.objs.size + 1) :: us) I2.kIn (by rw [List.append_nil]; exact hl)
  rw [List.append_nil] at b
  refine wpAny_call (make_map (f := f) I1.kIn M.makes M.init (beq_iff_eq.mp M.fn) (codeAny_mono (F.run _ X.stack _ _ ⟨Value.ref (s1.heap.objs.size + 1) :: us, []⟩ _ _ _ (E σ) (hr.make C us []) (I2.env0.make C us []) b r2 z0) fun res s' y => ?_))
  cases res with
  | error e => exact hx σ pins _ _ e s' I2 y
  | ok fl =>
    cases fl with
    | ret u =>
      obtain ⟨v, H', I3, q1, q2, q3⟩ := I2.after y
      subst q2
      exact ⟨q1, ⟨V.ref (s1.heap.objs.size + 1), H', I3, rfl, q3⟩⟩
    | _ => exact y.elim
end
end FR
set_option Elab.async false
set_option linter.all false
set_option maxRecDepth 100000
set_option maxHeartbeats 4000000
/-! anything == a text; a thing == itself -/
namespace FR
open PySem PySem.Spec PyProof.Rows L2 TL PySem.SeqAt
section
variable {X : Cx}
/-- what «v == the text b» gives -/
def EqT (K : PySem.W.Frag) (H : Hp) (v : V) (b : Str) (r : Bool) : Prop :=
  (∃ d, Dp K H v d ∧ SeqAt.shaped d = true ∧ SeqAt.shaped (.str b) = true ∧ PyData.eqv d (.str b) = r) ∨ ∃ (a : Addr) (kvs : List (Key × V)), v = .ref a ∧ H a = some (.dK kvs) ∧ false = r
def rEqT (K : PySem.W.Frag) : R2 := fun x y H Q => ∃ (b : Str) (r : Bool), y = .str b ∧ EqT K H x b r ∧ Q (.bl r) H
theorem op_eqT (hu : X.A.units + 65 < cLine) : OpR X (compareOp .Eq) (rEqT X.K) := by
  intro pins s σ H x y v u Q I rx ry h
  obtain ⟨b, r, rfl, ⟨d, hd, s1, s2, rfl⟩ | ⟨a, kvs, rfl, ha, rfl⟩, q⟩ := h
  · exact op_eqD (by omega) pins s σ H x _ v u Q I rx ry ⟨d, .str b, hd, .str b, s1, s2, q⟩
  · cases (show v = Value.ref a from rx)
    obtain ⟨t, rfl⟩ : ∃ t, u = Value.str b t := ry
    obtain ⟨_, _, vs, kv, o, es, ep, e, hx, hd, _, _, _⟩ := (show ObjOk X.prog X.w H s.heap a (.dK _) from I.hok _ _ ha)
    have td : s.TypeIs (.ref a) "dict" := ⟨o, e, hx.1⟩
    have ts : s.TypeIs (.str b t) "str" := typeIs_str s b t
    obtain ⟨cls, dd, data, sl⟩ := o
    obtain rfl : cls = .type "dict" := hx.1
    obtain rfl : data = .dict es ep := hd
    refine PySem.W.cmp_ofEq (rc_eq_decline_or (k := false) td ts (by decide) F.sub_str_dict F.slot_dict_eq F.slot_str_eq_refl
      (fun _ hq => call_meets F.slot_dict_eq td F.entry_dict_eq (F.args_dict_eq_2 _ _) (dict_eq_str b t a (.type "dict") es ep dd sl) ⟨e, hq⟩)
      (fun _ hq => call_meets F.slot_str_eq_refl ts F.entry_str_eq (F.args_str_eq_2 _ _) (str_eq_dict b t a (.type "dict") es ep dd sl) ⟨e, hq⟩)
      (fun _ hq => wpAny_of_eq (rfl : isSame (.ref a) (.str b t) = pure false) hq) (.inr (by omega)) ⟨.bl false, H, I, rfl, q⟩)
theorem eqAt_id {A : Around} {s : Shared} (v : Value) : EqAt A s v v true := fun prog w E Q h => by
  unfold eqBool
  exact wpAny_holding (wpAny_ite_split (fun _ => wpAny_bind (wpAny_rule (wpAny_pure h))) (fun n => absurd (beq_self_eq_true v) n))
/-- a thing that equals itself -/
def Self (K : PySem.W.Frag) (H : Hp) (x : V) : Prop := (∃ d, Dp K H x d ∧ SeqAt.shaped d = true ∧ PyData.eqv d d = true) ∨ (∃ a xs, x = .ref a ∧ SqL K H a xs) ∨ ∃ a ks ms, x = .ref a ∧ Rd H a (.dK ks) ∧ DpK K H ks ms ∧ eqDD ms ms = true
def rSelf (K : PySem.W.Frag) : R2 := fun x y H Q => x = y ∧ Self K H x ∧ Q (.bl true) H
theorem op_eqSelf (hu : X.A.units + 65 < cLine) : OpR X (compareOp .Eq) (rSelf X.K) := by
  intro pins s σ H x y v u Q I rx ry h
  obtain ⟨rfl, ⟨d, hd, s1, e⟩ | ⟨a, xs, rfl, hs⟩ | ⟨a, ks, ms, rfl, ha, hm, e⟩, q⟩ := h
  · exact op_eqD (by omega) pins s σ H x _ v u Q I rx ry ⟨d, d, hd, hd, s1, s1, by rw [e]; exact q⟩
  · cases (show v = Value.ref a from rx)
    cases (show u = Value.ref a from ry)
    obtain ⟨its, rv, hl, _⟩ := I.list hs
    refine SeqAt.eq_listAt (e := fun _ => true) hl.isList hl.isList rfl (by omega) (fun j h1 h2 => eqAt_id _) ⟨.bl true, H, I, ?_, q⟩
    show Value.bool _ = Value.bool true
    simp
  · exact op_eqDD hu pins s σ H _ _ v u Q I rx ry ⟨a, a, ks, ks, ms, ms, rfl, rfl, ha, ha, hm, hm, by rw [e]; exact q⟩
theorem op_eqSelfK {X : Cx} {K : PySem.W.Frag} (h : X.K = K) (hu : X.A.units + 65 < cLine) : OpR X (compareOp .Eq) (rSelf K) := h ▸ op_eqSelf hu
end
end FR
set_option Elab.async false
set_option linter.all false
set_option maxRecDepth 100000
set_option maxHeartbeats 4000000
/-! exceptions of the program over a built-in class that is made by another one's maker (KeyError by LookupError's) -/
namespace PySem
namespace ExM
open PySem.W PySem.Calls PyProof.Rows PySem.HandSPX Builtin Builtin.ObjectAttr
/-- what is asked of the classes behind the program's own -/
structure Rear (B : String) (tl : List Value) : Prop where
  b : tl.contains (.type B) = true
  o : tl.contains (.type "object") = true
  a : tl.contains (.type "AttributeError") = false
  n : tl.contains (.type "NameError") = false
  ne : tl.isEmpty = false
  ps : ∀ self : Value, refuseLoop self "__setattr__" tl = pure ()
def keyTail : List Value := [.type "KeyError", .type "LookupError", .type "Exception", .type "BaseException", .type "object"]
def lookTail : List Value := [.type "LookupError", .type "Exception", .type "BaseException", .type "object"]
theorem rear_key : Rear "LookupError" keyTail := ⟨by decide +kernel, by decide +kernel, by decide +kernel, by decide +kernel, rfl, fun self => by kernel_rfl⟩
theorem rear_look : Rear "LookupError" lookTail := ⟨by decide +kernel, by decide +kernel, by decide +kernel, by decide +kernel, rfl, fun self => by kernel_rfl⟩
/-- some of the program's classes ahead of these -/
inductive Over (tl : List Value) : List Value → Prop
  | base : Over tl tl
  | ref (c : Addr) {l : List Value} : Over tl l → Over tl (.ref c :: l)
theorem Rear.ref {B : String} {l : List Value} (ih : Rear B l) (c : Addr) : Rear B (.ref c :: l) := by
  refine ⟨?_, ?_, ?_, ?_, rfl, fun self => by rw [refuseLoop_ref]; exact ih.ps self⟩
  · rw [List.contains_cons, ih.b, Bool.or_true]
  · rw [List.contains_cons, ih.o, Bool.or_true]
  · rw [List.contains_cons, ih.a]; rfl
  · rw [List.contains_cons, ih.n]; rfl
theorem Over.rear {B : String} {tl l : List Value} (r : Rear B tl) (h : Over tl l) : Rear B l := by
  induction h with
  | base => exact r
  | ref c _ ih => exact ih.ref c
section
variable {M : Model} {A : Around} {E : Value → Shared → Prop} {hp : Heap} {gs : Array GenState} {dr : Drawn} {tk : Nat} {os : OsState}
variable {nm q : Str} {C N : Addr} {bs bm bB : List Value} {hd : Bool} {sn : List Str} {sub : List Value} {ab : Bool} {col : Option Bool} {dd : Option Addr} {k0 k1 k2 k3 k5 : Option Value} {B newId initId : String}
theorem check_newM (F : ExcBaseFacts B newId initId bB) (r : Rear B bm) {xs : List Value} {Q : Unit → Shared → Prop}
    (hC : hp.get? C = some (excClassObj nm q C N bs bm hd sn sub ab col dd k0 k1 k2 k3 k5 newId)) (z : Q () ⟨hp, gs, dr, tk, os⟩) :
    wpAny M A (checkBuiltinCall newId ⟨.ref C :: xs, []⟩) Q E ⟨hp, gs, dr, tk, os⟩ := by
  have c1 : (Value.ref C :: bm).contains (.type B) = true := by
    rw [List.contains_cons, r.b]
    exact Bool.or_true _
  have c2 := F.noStar
  unfold checkBuiltinCall
  simp only [F.newKind, F.newSplit, F.newRow]
  repeat (first
    | refine wpAny_loadPart_at hC ?_
    | (refine wpAny_isSubtype_exc hC ?_
       rw [c1])
    | refine wpAny_staticBase_exc hC ?_
    | refine wpAny_madeBy_exc hC ?_
    | simp only [bne_self_eq_false, Bool.false_eq_true, if_false]
    | wp_step)
  exact z
end
section
variable {prog : Program} {w : World} {A : Around} {E : Value → Shared → Prop} {R : Result → Shared → Prop} {hp : Heap} {gs : Array GenState} {dr : Drawn} {tk : Nat} {os : OsState}
variable {nm q : Str} {C N : Addr} {bs bm bB : List Value} {hd : Bool} {sn : List Str} {sub : List Value} {ab : Bool} {col : Option Bool} {dd : Option Addr} {k0 k1 k2 k3 k5 : Option Value} {B newId initId : String}
theorem newM (F : ExcBaseFacts B newId initId bB) (r : Rear B bm) {xs : List Value}
    (hC : hp.get? C = some (excClassObj nm q C N bs bm hd sn sub ab col dd k0 k1 k2 k3 k5 newId)) (hz : xs.length ≤ sizeLine)
    (z : R (.ok (.ret (.ref (hp.objs.size + 1)))) ⟨(hp.push (kdv_tup xs)).push (excO C hp.objs.size), gs, dr, tk, os⟩) :
    codeAny (model prog w) A (.builtin newId ⟨.ref C :: xs, []⟩) R ⟨hp, gs, dr, tk, os⟩ := by
  have ends := F.ends
  have c1 : (Value.ref C :: bm).contains (.type B) = true := by
    rw [List.contains_cons, r.b]
    exact Bool.or_true _
  have c2 : (Value.ref C :: bm).contains (.type "AttributeError") = false := by
    rw [List.contains_cons, r.a]
    rfl
  have c3 : (Value.ref C :: bm).contains (.type "NameError") = false := by
    rw [List.contains_cons, r.n]
    rfl
  refine codeAny_builtinAt F.entry ?_
  unfold Builtin.«BaseException.__new__»
  refine wpAt_bind ?_
  show wpAt _ _ _ (stack >>= fun _ => _) _ _ _
  refine wpAt_bind (wpAt_stack fun fr below => wpAt_of_wpAny ?_)
  wp_walk
  refine wpAt_of_wpAny ?_
  rw [F.owner]
  repeat (first
    | with_reducible refine wpAny_madeHere_exc F.canon hC ?_
    | with_reducible refine wpAny_loadPart_at hC ?_
    | (with_reducible refine wpAny_isSubtype_exc hC ?_
       first | rw [c1] | rw [c2] | rw [c3])
    | wp_step)
  show R _ _
  rw [Heap.size_push]
  exact z
/-- the class called: made, then its own __init__ -/
theorem callM (F : ExcBaseFacts B newId initId bB) (r : Rear B bm) {xs : List Value} {fI : Addr}
    (hC : hp.get? C = some (excClassObj nm q C N bs bm hd sn sub ab col dd k0 k1 k2 k3 k5 newId))
    (hi : W.Looks (model prog w) hp (typeLookup (.ref C) "__init__") (some (.ref fI))) (hb : ∀ self, W.Looks (model prog w) hp (bindSpecial (.ref fI) self) (.ref fI, [self])) (hz : xs.length ≤ sizeLine)
    (z : codeAny (model prog w) (A.under (.builtin "type.__call__" ⟨.ref C :: xs, []⟩)) (.call (.ref fI) ⟨.ref (hp.objs.size + 1) :: xs, []⟩) (W.InitBack (hp.objs.size + 1) R)
      ⟨(hp.push (kdv_tup xs)).push (excO C hp.objs.size), gs, dr, tk, os⟩) :
    codeAny (model prog w) A (.call (.ref C) ⟨xs, []⟩) R ⟨hp, gs, dr, tk, os⟩ := by
  have f1 := tc_lookup
  have f2 := tc_bind (.ref C)
  have ty : (⟨hp, gs, dr, tk, os⟩ : Shared).TypeIs (.ref C) "type" := ⟨_, hC, rfl⟩
  have body : ∀ {A : Around} {Q : Fin → Shared → Prop} {E : Value → Shared → Prop},
      codeAny (model prog w) A (.call (.ref fI) ⟨.ref (hp.objs.size + 1) :: xs, []⟩) (fun r s' => match r with
        | .ok (.ret v) => v = .none ∧ Q (.done (.ret (.ref (hp.objs.size + 1)))) s'
        | .ok _ => False
        | .error e => E e s') ⟨(hp.push (kdv_tup xs)).push (excO C hp.objs.size), gs, dr, tk, os⟩ →
      wpAny (model prog w) A (Builtin.«type.__call__» ⟨.ref C :: xs, []⟩) Q E ⟨hp, gs, dr, tk, os⟩ := by
    intro A Q E hq
    repeat (first
      | with_reducible refine wpAny_loadPart_at hC ?_
      | with_reducible refine wpAny_madeBy_exc hC ?_
      | wp_step)
    refine codeAny_call_builtin_code (Code.quiet_builtin _ F.quiet) (check_newM F r hC ?_)
    refine newM F r hC hz ?_
    show wpAny _ _ _ _ _ _
    have kp : ∀ b o, hp.get? b = some o → ((hp.push (kdv_tup xs)).push (excO C hp.objs.size)).get? b = some o := fun b o e => Heap.get?_push_of_some _ (Heap.get?_push_of_some _ e)
    have hC2 := kp _ _ hC
    have hg : ((hp.push (kdv_tup xs)).push (excO C hp.objs.size)).get? (hp.objs.size + 1) = some (excO C hp.objs.size) := by heap_get
    have cc : (Value.ref C :: bm).contains (.ref C) = true := by simp
    have i2 := hi.keeps kp
    have b2 := (hb (.ref (hp.objs.size + 1))).keeps kp
    unfold isInstance
    repeat (first
      | with_reducible refine wpAny_loadPart_at hg ?_
      | (with_reducible refine wpAny_isSubtype_exc hC2 ?_
         rw [cc])
      | wp_step)
    show wpAny _ _ (typeLookup (.ref C) _) _ _ _
    refine i2.at ?_
    refine wpAny_holding (wpAny_bind (b2.at ?_))
    refine wpAny_bind (wpAny_call (codeAny_mono hq fun res s' y => ?_))
    rcases res with e | fl
    · exact y
    · cases fl with
      | ret v =>
        obtain ⟨rfl, y⟩ := y
        first
          | exact wpAny_pure (wpAny_pure y)
          | (wp_walk; exact y)
      | _ => exact y.elim
  refine codeAny_of_tree ?_
  show wpAny _ _ (callAny (.ref C) _) _ _ _
  repeat (any_goals (first | assumption | with_reducible refine wpAny_loadPart_at hC ?_ | wp_step))
  refine ⟨rfl, ?_⟩
  refine codeAny_call_builtin_at (Code.quiet_builtin _ (by decide +kernel)) entry_typeCall (wpAny_check_type_call_sub hC (body ?_))
  refine codeAny_mono z fun res s' y => ?_
  rcases res with e | (v | _ | _ | _) <;> exact y
/-- self.name = v on one that has no dict yet -/
theorem osaM {K : W.Frag} {name : Str} {tn : Tok} {v : Value} {x : Addr} {fv : Array Value} {cd : ClassData}
    (X : K.In hp) (hx : hp.get? x = some { cls := .ref C, data := .fields fv }) (hcd : W.clsIn K C = some cd) (r : Rear B cd.mro) (hh : cd.hasDict = true) (ha : W.findIn K (.ref C) name = some none)
    (z : ∀ h' tk' dx, (∀ b o, b ≠ x → hp.get? b = some o → h'.get? b = some o) → hp.objs.size ≤ dx → dx ≠ x → h'.get? x = some { cls := .ref C, dict := some dx, data := .fields fv } →
      h'.Ns1 dx (fun y => if y = name then some v else none) → R (.ok (.ret .none)) ⟨h', gs, dr, tk', os⟩) :
    codeAny (model prog w) A (.call (.builtin "object.__setattr__") ⟨[.ref x, .str name tn, v], []⟩) R ⟨hp, gs, dr, tk, os⟩ := by
  have I : W.InstAt hp x { cls := .ref C, data := .fields fv } C none := ⟨hx, rfl, rfl, trivial⟩
  have SF := F.store_object
  have nx : x ≠ hp.objs.size := Nat.ne_of_lt (Heap.lt_size hx)
  have io : W.Looks (model prog w) hp (isInstance (.ref x) (.type "object")) true :=
    I.type.andThen (W.looks_mroIn X (by unfold W.mroIn; rw [hcd, Option.bind_some, if_neg (by rw [r.ne]; decide), r.o]))
  refine codeAny_call_builtin SF.slot.plain SF.entry (@W.check_slot (model prog w) _ _ ⟨hp, gs, dr, tk, os⟩ "object.__setattr__" "object" "__setattr__" (.ref x) [.str name tn, v] [] _ SF.kind SF.split io (SF.args (.ref x) (.str name tn) v) ?_)
  have lm : W.Looks (model prog w) hp (mroOf (.ref C)) cd.mro := (W.looks_clsIn X hcd).andThen .now
  have lt : W.Looks (model prog w) hp (storeTaker? none) none := .now
  have lc : W.Looks (model prog w) hp (classData C) cd := W.looks_clsIn X hcd
  rw [W.osa_eq, refuse_eq]
  refine wpAny_bind (wpAny_bind (I.type.at (wpAny_bind (lm.at ?_))))
  rw [r.ps]
  refine wpAny_pure (wpAny_bind (I.type.at (wpAny_bind ((W.looks_findIn X ha).at (wpAny_bind (lt.at ?_))))))
  show wpAny _ _ (storeInOwnDict (.ref x) (.ref C) (.str name tn) name v false) _ _ _
  obtain ⟨_, _, _, _, _, hd', _, _, _, _, _⟩ := cd
  obtain rfl : hd' = true := hh
  unfold storeInOwnDict ownDictForStores
  repeat (first
    | with_reducible refine store_in_new ?_ ?_
    | with_reducible refine wpAny_loadPart_at hx ?_
    | with_reducible refine lc.at ?_
    | wp_step)
  · exact ⟨_, #[], _, (Heap.get?_update_ne _ _ _ _ nx.symm).trans (Heap.get?_push_at rfl rfl), rfl, fun e he => absurd he (by simp), fun _ => rfl⟩
  · intro h' tk' hn hs
    have hx2 : (hp.push { cls := .type "dict", data := .dict #[] }).get? x = some { cls := .ref C, data := .fields fv } := Heap.get?_push_of_some _ hx
    refine z h' tk' hp.objs.size (fun b o nb ho => ?_) (Nat.le_refl _) nx.symm ?_ hn
    · rw [hs.2 b (Nat.ne_of_lt (Heap.lt_size ho)), Heap.get?_update_ne _ _ _ _ nb]
      exact Heap.get?_push_of_some _ ho
    · rw [hs.2 x nx]
      exact Heap.get?_update_self _ hx2 rfl
end
end ExM
end PySem
set_option Elab.async false
set_option linter.all false
set_option maxRecDepth 100000
set_option maxHeartbeats 2000000
/-! exceptions of the program over KeyError or LookupError with one field, name -/
namespace PySem
namespace ExN
open PySem.W PySem.Calls PyProof.Rows PySem.HandSPX
/-! ### the text of __init__ -/
def iA (p1 p2 : Pos) : Arguments := { posonlyargs := [], args := [{ arg := "self", annotation := none, pos := p1 }, { arg := "name", annotation := none, pos := p2 }], vararg := none, kwonlyargs := [], kw_defaults := [], kwarg := none, defaults := [] }
def iB (q1 q2 q3 q4 : Pos) : List Stmt := [.Assign [.Attribute (.Name "self" q1) "name" q2] (.Name "name" q3) q4]
def iS : Scope := { kind := .function, names := [(PySem.Str.ofString "self", .local), (PySem.Str.ofString "name", .local)], isGenerator := false, isCoroutine := false, more := [] }
/-- what the written part says of Nam, at C, and of its __init__, at fI -/
structure NamTxt (K : Frag) (mg : Str → Option Value) (cn qn : Str) (C fI : Addr) : Prop where
  gC : mg cn = some (.ref C)
  cls : ∃ nm q N bs bm sn sub ab col dd k0 k1 k2 k3 k5, K.lookup C = some (excClassObj nm q C N bs bm true sn sub ab col dd k0 k1 k2 k3 k5 "LookupError.__new__") ∧ ExM.Rear "LookupError" bm
  sa : findIn K (.ref C) "__setattr__" = some (some (.builtin "object.__setattr__"))
  ga : findIn K (.ref C) "__getattribute__" = some (some (.builtin "BaseException.__getattribute__"))
  gg : findIn K (.ref C) "__getattr__" = some none
  noN : findIn K (.ref C) "name" = some none
  iC : findIn K (.ref C) "__init__" = some (some (.ref fI))
  tC : typeIn K (.ref fI) = some (.type "function")
  kC : keepIn K (.ref C) = true
  exC : subIn K (.ref C) (.type "BaseException") = some true
  tyC : typeIn K (.ref C) = some (.type "type")
  hdC : hasDictIn K C = true
  te : exmOne K (.ref C) (.ref C) = some true
  fn : ∃ (oc : Value) (od : Option Addr) (doc pm : Value) (an : Option Addr) (cdv ct : Value) (osl : Array (Option Value)) (p1 p2 q1 q2 q3 q4 : Pos),
    K.lookup fI = some ⟨oc, od, .func (fnOf "__init__" qn (iA p1 p2) (iB q1 q2 q3 q4) iS .none .none doc pm an cdv ct), osl⟩ ∧ codeIn K cdv qn = true
theorem one_size (v : Value) : [v].length ≤ sizeLine := by
  rw [sizeLine_eq]
  exact (by decide : 1 ≤ 16777216)
theorem kept_but {K : Frag} {h h' : Heap} {x : Addr} (X : K.In h) (hx : K.lookup x = none) (k : ∀ b o, b ≠ x → h.get? b = some o → h'.get? b = some o) : K.In h' := fun a o e =>
  k a o (fun z => by rw [z, hx] at e; cases e) (X a o e)
theorem ldC {M : Model} {s : Shared} {name : Str} {scope : Scope} {L a : Addr} {cd : Value} {m : Str → Option Value} {x : Str} {pos : Pos} {v : Value} {Q : Value → Shared → Prop} {A : Around} {E : Value → Shared → Prop} (hn : s.heap.Ns L m) (hv : m x = some v) (h : Q v s)
    (hk : scope.kind = .function := by rfl) (hl : (envOfC name scope L a cd).kindOf x = some .local := by rfl) (hd : (x == ("__debug__" : Str)) = false := by decide) :
    wpAny M A (eval (.Name x pos) (envOfC name scope L a cd)) Q E s := wpAny_Name (wpAny_loadName_local hk hl hn hv h) hd
/-- what __init__ leaves of a fresh exception at x -/
structure InitEnd (h h' : Heap) (x C dx t1 : Addr) (v : Value) : Prop where
  keep : ∀ b o, b ≠ x → h.get? b = some o → h'.get? b = some o
  obj : h'.get? x = some { cls := .ref C, dict := some dx, data := .fields #[.ref t1, .none, .none, .none, .bool false, .none] }
  dbig : h.objs.size ≤ dx
  dne : dx ≠ x
  ns : h'.Ns1 dx (fun y => if y = "name" then some v else none)
/-- a made Nam -/
structure OwnMade (h h' : Heap) (e C d : Addr) (v : Value) : Prop where
  keep : ∀ b o, h.get? b = some o → h'.get? b = some o
  new : h.objs.size ≤ e
  obj : ∃ oe vs, h'.get? e = some oe ∧ oe.cls = .ref C ∧ oe.dict = some d ∧ oe.data = .fields vs ∧ vs[1]? = some .none
  dbig : h.objs.size ≤ d
  dne : d ≠ e
  ns : h'.Ns1 d (fun y => if y = "name" then some v else none)
section
variable {prog : Program} {w : World} {A : Around} {E : Value → Shared → Prop} {R : Result → Shared → Prop} {s : Shared} {K : Frag} {mg : Str → Option Value} {C fI : Addr} {cn qn : Str}
theorem nam_init (T : NamTxt K mg cn qn C fI) {x t0 : Addr} {v : Value} (X : K.In s.heap) (hlim : s.heap.NoLimit) (hx : s.heap.get? x = some (excO C t0)) (hnx : K.lookup x = none) (hroom : A.depth < recursionLimit)
    (hq : ∀ h' tk dx, InitEnd s.heap h' x C dx t0 v → R (.ok (.ret .none)) { s with heap := h', toks := tk }) :
    codeAny (model prog w) A (.call (.ref fI) ⟨[.ref x, v], []⟩) R s := by
  obtain ⟨oc, od, doc, pm, an, cdv, ct, osl, p1, p2, q1, q2, q3, q4, ho, hcd⟩ := T.fn
  obtain ⟨nm, q, N, bs, bm, sn, sub, ab, col, dd, k0, k1, k2, k3, k5, hC, hbm⟩ := T.cls
  have hcl : clsIn K C = some { name := nm, bases := bs, mro := .ref C :: bm, ns := N, qualname := q, hasDict := true, slotNames := sn, subclasses := sub, abstract := ab, collection := col, hasDel := false } := by unfold clsIn; rw [hC] <;> rfl
  refine Att.call_fn (binds := [("self", .ref x), ("name", v)]) X hlim ho hcd hroom (BindsTo.of_eq (by first | rfl | with_unfolding_all rfl)) (by first | rfl | decide | with_unfolding_all rfl) (fun s₁ IC => ?_) rfl rfl rfl
  obtain ⟨h₁, tk₁, rfl⟩ := IC.toInCall.same
  have k : ∀ b o, s.heap.get? b = some o → h₁.get? b = some o := IC.toInCall.keep
  have hn := IC.toInCall.ns
  have hxL : s.heap.objs.size ≠ x := Nat.ne_of_gt (Heap.lt_size hx)
  have X₁ : K.In h₁ := X.keeps k
  have hx₁ := k _ _ hx
  -- self.by = by
  show wpAny _ _ (execs _ _) _ _ _
  refine wpAny_execs_cons (plainObj_wpAny_Assign_Attribute ?_)
  refine ldC (v := v) hn (by first | rfl | with_unfolding_all rfl | kernel_rfl) (ldC (v := .ref x) hn (by first | rfl | with_unfolding_all rfl | kernel_rfl) ?_)
  refine set_plain X₁ (ox := excO C t0) (od := none) ⟨hx₁, rfl, rfl, trivial⟩ T.sa ?_
  refine ExM.osaM X₁ hx₁ hcl (show ExM.Rear "LookupError" (.ref C :: bm) from hbm.ref C) rfl T.noN (fun h₃ tk₃ dx k₃ dn dne hx₃ hn₃ => ?_)
  show wpAny _ _ (execs _ _) _ _ _
  have z : s.heap.objs.size < h₁.objs.size := hn.lt
  exact wpAny_execs_nil (hq h₃ tk₃ dx ⟨fun b o hb e => k₃ b o hb (k b o e), hx₃, Nat.le_of_lt (Nat.lt_of_lt_of_le z dn), dne, hn₃⟩)
theorem nam_made (T : NamTxt K mg cn qn C fI) {v : Value} (X : K.In s.heap) (hlim : s.heap.NoLimit) (hroom : A.depth + 1 < recursionLimit)
    (hq : ∀ h' tk e d, OwnMade s.heap h' e C d v → R (.ok (.ret (.ref e))) { s with heap := h', toks := tk }) :
    codeAny (model prog w) A (.call (.ref C) ⟨[v], []⟩) R s := by
  obtain ⟨nm, q, N, bs, bm, sn, sub, ab, col, dd, k0, k1, k2, k3, k5, hC, hbm⟩ := T.cls
  obtain ⟨hp, g, dr, tk, os⟩ := s
  have k : ∀ b o, hp.get? b = some o → ((hp.push (kdv_tup [v])).push (excO C hp.objs.size)).get? b = some o := fun b o e => Heap.get?_push_of_some _ (Heap.get?_push_of_some _ e)
  have hget : ((hp.push (kdv_tup [v])).push (excO C hp.objs.size)).get? (hp.objs.size + 1) = some (excO C hp.objs.size) := by heap_get
  have hnx : K.lookup (hp.objs.size + 1) = none := by
    cases e : K.lookup (hp.objs.size + 1) with
    | none => rfl
    | some o =>
      have z : hp.get? (hp.objs.size + 1) = some o := X _ _ e
      exact absurd (Nat.lt_of_succ_lt (Heap.lt_size z)) (Nat.lt_irrefl _)
  refine ExM.callM F.excBase_LookupError hbm (X _ _ hC) (looks_findIn X T.iC) (fun self => bind_fn X self T.tC) (one_size v) ?_
  refine nam_init (s := ⟨(hp.push (kdv_tup [v])).push (excO C hp.objs.size), g, dr, tk, os⟩) T (X.keeps k) (hlim.keeps k) hget hnx ?_ fun h' tk' dx ⟨k', hx, dn, dne, hns⟩ => ?_
  · show A.depth + 1 < recursionLimit
    exact hroom
  · have old : ∀ b o, hp.get? b = some o → h'.get? b = some o := fun b o e => k' b o (Nat.ne_of_lt (Nat.lt_succ_of_lt (Heap.lt_size e))) (k b o e)
    have z : hp.objs.size + 1 + 1 ≤ dx := by
      first
        | (simpa only [Heap.size_push] using dn)
        | exact dn
        | (have q := dn; rw [Heap.size_push, Heap.size_push] at q; exact q)
    exact ⟨rfl, hq h' tk' (hp.objs.size + 1) dx ⟨old, Nat.le_succ _, ⟨_, _, hx, rfl, rfl, rfl, rfl⟩, Nat.le_trans (Nat.le_trans (Nat.le_succ _) (Nat.le_succ _)) z, dne, hns⟩⟩
end
end ExN
end PySem
namespace L2
open PySem PySem.Spec PyProof.Rows
theorem relO_nam {v : V} {v' : Value} (r : RelV v v') (f : Str) : RelO (List.lookup f [(("name" : Str), v)]) (if f = "name" then some v' else none) := by
  by_cases hw : f = "name"
  · subst hw
    rw [if_pos rfl]
    have q : List.lookup ("name" : Str) [(("name" : Str), v)] = some v := by simp [List.lookup]
    rw [q]
    exact r
  · rw [if_neg hw]
    have qw : (f == ("name" : Str)) = false := by simpa using hw
    have q2 : List.lookup f [(("name" : Str), v)] = none := by simp [List.lookup, qw]
    rw [q2]
    trivial
section
variable {X : Cx} {C fI : Addr} {cn qn : Str}
/-- Nam(e) -/
def tMkNam (C : Addr) (ta : TA) : St → Hp → XK → Prop := fun σ H Q => ta σ H fun vs H1 => ∃ v, vs = [v] ∧ ∀ d, H1 d = none → Q (.ref C) (some d) (upd H1 d (.xd [(("name" : Str), v)]))
theorem pmk_nam {a : Expr} {ta : TA} {p pos : Pos} {k : Nat} (T : PySem.ExN.NamTxt X.K X.mg cn qn C fI) (hr : Room k X.A) (ha : PA X [a] ta) (hdb : (cn == ("__debug__" : Str)) = false := by decide) (hg : Gl X cn := by rfl)
    (he : starEach (a :: []) X.env = (false, eval a X.env) :: starEach [] X.env := by rfl) (hpl : (backTo pos (starEach [] X.env)).any (·.1) = false := by rfl) :
    PMk X (.Call (.Name cn p) [a] [] pos) (tMkNam C ta) := by
  intro pins s σ H Q I h
  refine wpAny_Call_Name_kw (ld_glob I hg T.gC ?_ hdb)
  refine PySem.W.callWith_K (h₀ := X.base) I.ok.mod.kin T.kC (thn (ha.run pos pins s σ H _ I h) fun us s1 hh => ?_) he hpl
  obtain ⟨vs, H1, I1, r1, v, ev, q1⟩ := hh
  subst ev
  refine ⟨I1.kIn, ?_⟩
  cases r1 with
  | cons rv rn =>
    rename_i v' us'
    cases rn
    show wpAny _ _ (call (.ref C) [v']) _ _ _
    have hlim := I1.nolimit
    obtain ⟨hp, g, dr, tk, os⟩ := s1
    refine wpAny_call (PySem.ExN.nam_made T I1.kIn hlim (by have := hr.dp; omega) fun h' tk' e d M => ?_)
    show MkP X pins σ Q (.ref e) ⟨h', g, dr, tk', os⟩
    obtain ⟨oe, fv, hoe, hc, hd, hdat, h1⟩ := M.obj
    have hns := M.ns
    obtain ⟨G', g1, g2⟩ := restrict h' fun b => decide (b ≠ e)
    have gk : ∀ b, b ≠ e → G'.get? b = h'.get? b := fun b hb => g1 b (decide_eq_true hb)
    have ge : G'.get? e = none := g2 e (by simp)
    have old : ∀ b o, hp.get? b = some o → G'.get? b = some o := fun b o q => (gk b (Nat.ne_of_lt (Nat.lt_of_lt_of_le (Heap.lt_size q) M.new))).trans (M.keep b o q)
    have ob : ObjOk X.prog X.w (upd H1 d (.xd [(("name" : Str), v)])) G' d (.xd [(("name" : Str), v)]) :=
      ⟨_, hns.at (fun o q => (gk d M.dne).trans q), fun f => relO_nam rv f⟩
    have J : Inv X pins σ (upd H1 d (.xd [(("name" : Str), v)])) ⟨G', g, dr, tk', os⟩ := I1.laid (t' := tk') old M.dbig ob
    refine ⟨e, oe, fv, ⟨G', g, dr, tk', os⟩, _, .ref C, some d, rfl, J, fun b o q => ?_, ge, hoe, ⟨hc, hd⟩, hdat, h1, ?_, rfl, I1.bare, raises_own T.exC T.tyC, q1 d (I1.hok.fresh M.dbig)⟩
    · by_cases hb : b = e
      · have q' : G'.get? b = some o := q
        rw [hb, ge] at q'; cases q'
      · exact (gk b hb).symm.trans q
    · rw [upd_ne (Ne.symm M.dne)]
      exact I1.hok.fresh M.new
/-- raise Nam(e) -/
def tRaiseNam (C : Addr) (W : WX) (ta : TA) : TS := fun _ σ H => tMkNam C ta σ H fun cls d H' => W cls d σ H'
theorem ps_raiseNam {a : Expr} {ta : TA} {W : WX} {p pos pos2 : Pos} {k : Nat} (hc : X.calm = true) (T : PySem.ExN.NamTxt X.K X.mg cn qn C fI) (hr : Room k X.A) (tk : Takes X W) (ha : PA X [a] ta) (hdb : (cn == ("__debug__" : Str)) = false := by decide) (hg : Gl X cn := by rfl)
    (he : starEach (a :: []) X.env = (false, eval a X.env) :: starEach [] X.env := by rfl) (hpl : (backTo pos (starEach [] X.env)).any (·.1) = false := by rfl) :
    PS X (.Raise (some (.Call (.Name cn p) [a] [] pos)) none pos2) (tRaiseNam C W ta) := ps_raise hc tk (pmk_nam T hr ha hdb hg he hpl)
/-- low.by, low the exception that the suite holds (at a; its class cls, its dict d) -/
def tByNam (C : Addr) (a : Addr) (cls : Value) (d : Option Addr) (te : TE) : TE := fun σ H Q => te σ H fun x H1 => x = .ref a ∧ cls = .ref C ∧ ∃ (dd : Addr) (v : V), d = some dd ∧ H1 dd = some (.xd [(("name" : Str), v)]) ∧ Q v H1
theorem pe_byNam {a : Addr} {oe : Obj} {cls : Value} {d : Option Addr} {pn : List (Addr × Obj)} {e : Expr} {te : TE} {pos : Pos} (T : PySem.ExN.NamTxt X.K X.mg cn qn C fI) (hz : Zc cls d oe) (hf : ∃ vs, oe.data = .fields vs) (he : PE (X.suite a ((a, oe) :: pn)) e te)
    (hb : attributeBase e "name" X.env (eval e X.env) = eval e X.env := by rfl) :
    PE (X.suite a ((a, oe) :: pn)) (.Attribute e "name" pos) (tByNam C a cls d te) := by
  refine ⟨fun pins s σ H Q I h => ?_⟩
  refine attr_of hb (thn (he.run pins s σ H _ I h) fun u s1 hh => ?_)
  obtain ⟨x, H1, I1, rx, ex, ec, dd, v, ed, ea, q⟩ := hh
  subst ex
  obtain rfl : u = Value.ref a := rx
  subst ec
  subst ed
  obtain ⟨ha, _⟩ := I1.pin (a, oe) (List.mem_append_left _ List.mem_cons_self)
  obtain ⟨vs, hd⟩ := hf
  have hx : ObjOk X.prog X.w H1 s1.heap dd (.xd [(("name" : Str), v)]) := I1.hok dd _ ea
  obtain ⟨mA, hns, hr⟩ := hx
  obtain ⟨od, ho, hl⟩ := lookIn_ns hns
  have l : List.lookup ("name" : Str) [(("name" : Str), v)] = some v := by simp [List.lookup]
  obtain ⟨u, hu, ru⟩ := RelO.some_of (v := v) (o := mA "name") (by rw [← l]; exact hr "name")
  have J : PySem.W.InstAt s1.heap a oe C (some od) := ⟨ha, hz.1, by unfold PySem.W.notCls; rw [hd] <;> rfl, by rw [hz.2]; exact ho⟩
  exact HandSPX.exc_get I1.kIn J T.ga T.gg T.exC (PySem.W.findObj_own T.hdC T.noN rfl (by rw [hl, hu])) (handed_of ru) ⟨v, H1, I1.tok _, ru, q⟩
end
end L2
set_option Elab.async false
set_option linter.all false
set_option maxRecDepth 100000
set_option maxHeartbeats 8000000
local macro_rules | `(tactic| walk_at "sq") => `(tactic| first
  | (refine' FR.Ow.sq (i := 0) ?w ?e; (case w => assumption); (case e => rfl))
  | (refine' FR.Ow.sq (i := 1) ?w ?e; (case w => assumption); (case e => rfl))
  | (refine' FR.Ow.sq (i := 2) ?w ?e; (case w => assumption); (case e => rfl))
  | (refine' FR.Ow.sq (i := 3) ?w ?e; (case w => assumption); (case e => rfl))
  | (refine' FR.Ow.sq (i := 4) ?w ?e; (case w => assumption); (case e => rfl))
  | (refine' FR.Ow.sq (i := 5) ?w ?e; (case w => assumption); (case e => rfl))
  | (refine' FR.Ow.sq (i := 6) ?w ?e; (case w => assumption); (case e => rfl))
  | (refine' FR.Ow.sq (i := 7) ?w ?e; (case w => assumption); (case e => rfl))
  | (refine' FR.Ow.sq (i := 8) ?w ?e; (case w => assumption); (case e => rfl))
  | (refine' FR.Ow.sq (i := 9) ?w ?e; (case w => assumption); (case e => rfl))
  | (refine' FR.Ow.sq (i := 10) ?w ?e; (case w => assumption); (case e => rfl))
  | (refine' FR.Ow.sq (i := 11) ?w ?e; (case w => assumption); (case e => rfl))
  | (refine' FR.Ow.sq (i := 12) ?w ?e; (case w => assumption); (case e => rfl))
  | (refine' FR.Ow.sq (i := 13) ?w ?e; (case w => assumption); (case e => rfl))
  | assumption)
local macro_rules | `(tactic| walk_at "hp") => `(tactic| first
  | (refine' FR.Ow.get (i := 0) ?w ?e; (case w => assumption); (case e => rfl))
  | (refine' FR.Ow.get (i := 1) ?w ?e; (case w => assumption); (case e => rfl))
  | (refine' FR.Ow.get (i := 2) ?w ?e; (case w => assumption); (case e => rfl))
  | (refine' FR.Ow.get (i := 3) ?w ?e; (case w => assumption); (case e => rfl))
  | (refine' FR.Ow.get (i := 4) ?w ?e; (case w => assumption); (case e => rfl))
  | (refine' FR.Ow.get (i := 5) ?w ?e; (case w => assumption); (case e => rfl))
  | (refine' FR.Ow.get (i := 6) ?w ?e; (case w => assumption); (case e => rfl))
  | (refine' FR.Ow.get (i := 7) ?w ?e; (case w => assumption); (case e => rfl))
  | (refine' FR.Ow.get (i := 8) ?w ?e; (case w => assumption); (case e => rfl))
  | (refine' FR.Ow.get (i := 9) ?w ?e; (case w => assumption); (case e => rfl))
  | (refine' FR.Ow.get (i := 10) ?w ?e; (case w => assumption); (case e => rfl))
  | (refine' FR.Ow.get (i := 11) ?w ?e; (case w => assumption); (case e => rfl))
  | (refine' FR.Ow.get (i := 12) ?w ?e; (case w => assumption); (case e => rfl))
  | (refine' FR.Ow.get (i := 13) ?w ?e; (case w => assumption); (case e => rfl))
  | assumption)
local macro_rules | `(tactic| walk_at "ar") => `(tactic| first | assumption | omega | decide)
local macro_rules | `(tactic| walk_at "cd") => `(tactic| first
  | assumption | (with_reducible rfl) | exact (rfl : List.length _ = _) | (dsimp only; walk_at "ar") | walk_at "ar"
  | (refine And.intro (a := (_ : Int) < _) ?_ ?_ <;> walk_at "ar")
  | (refine And.intro (a := (0 : Int) ≤ _) ?_ (And.intro ?_ ?_) <;> walk_at "ar")
  | exact FR.size_le (by omega) | exact FR.size_ok (by omega)
  | (refine Or.inl (And.intro ?_ ?_) <;> walk_at "ar")
  | (refine Or.inr (And.intro ?_ ?_) <;> walk_at "ar"))
local macro_rules | `(tactic| walk_at "ty") => `(tactic| first
  | exact L2.TyOf.int _
  | exact L2.TyOf.str _
  | exact L2.TyOf.bl _
  | exact L2.TyOf.non
  | (refine' L2.TyOf.lst ?e; (case e => walk_at "hp"))
  | (refine' L2.TyOf.tup ?e; (case e => walk_at "hp"))
  | (refine' L2.TyOf.dK ?e; (case e => walk_at "hp")))
local macro_rules | `(tactic| walk_at "kit") => `(tactic| first
  | exact FR.ki_int_str
  | exact FR.ki_int_int
  | exact FR.ki_int_bool
  | exact FR.ki_int_list
  | exact FR.ki_int_tuple
  | exact FR.ki_int_dict
  | exact FR.ki_str_str
  | exact FR.ki_str_int
  | exact FR.ki_str_bool
  | exact FR.ki_str_list
  | exact FR.ki_str_tuple
  | exact FR.ki_str_dict
  | exact FR.ki_bl_str
  | exact FR.ki_bl_int
  | exact FR.ki_bl_bool
  | exact FR.ki_bl_list
  | exact FR.ki_bl_tuple
  | exact FR.ki_bl_dict
  | exact FR.ki_non_str
  | exact FR.ki_non_int
  | exact FR.ki_non_bool
  | exact FR.ki_non_list
  | exact FR.ki_non_tuple
  | exact FR.ki_non_dict
  | exact FR.ki_lst_str
  | exact FR.ki_lst_int
  | exact FR.ki_lst_bool
  | exact FR.ki_lst_list
  | exact FR.ki_lst_tuple
  | exact FR.ki_lst_dict
  | exact FR.ki_tup_str
  | exact FR.ki_tup_int
  | exact FR.ki_tup_bool
  | exact FR.ki_tup_list
  | exact FR.ki_tup_tuple
  | exact FR.ki_tup_dict
  | exact FR.ki_dK_str
  | exact FR.ki_dK_int
  | exact FR.ki_dK_bool
  | exact FR.ki_dK_list
  | exact FR.ki_dK_tuple
  | exact FR.ki_dK_dict)
local macro_rules | `(tactic| walk_at "isi") => `(tactic| (refine' ⟨_, _, _, _, _, rfl, L2.ClsV.ty _, L2.TyX.base ?k1, L2.kit_ty ?k2, ?k3⟩; (case k1 => walk_at "ty"); (case k2 => walk_at "kit")))
local macro_rules | `(tactic| walk_at "w1") => `(tactic| first
  | (refine' FR.with1 0 ?k1 ?k2 (by assumption) (by assumption) ?k3; (case k1 => assumption); (case k2 => rfl); intro W)
  | (refine' FR.with1 1 ?k1 ?k2 (by assumption) (by assumption) ?k3; (case k1 => assumption); (case k2 => rfl); intro W)
  | (refine' FR.with1 2 ?k1 ?k2 (by assumption) (by assumption) ?k3; (case k1 => assumption); (case k2 => rfl); intro W)
  | (refine' FR.with1 3 ?k1 ?k2 (by assumption) (by assumption) ?k3; (case k1 => assumption); (case k2 => rfl); intro W)
  | (refine' FR.with1 4 ?k1 ?k2 (by assumption) (by assumption) ?k3; (case k1 => assumption); (case k2 => rfl); intro W)
  | (refine' FR.with1 5 ?k1 ?k2 (by assumption) (by assumption) ?k3; (case k1 => assumption); (case k2 => rfl); intro W)
  | (refine' FR.with1 6 ?k1 ?k2 (by assumption) (by assumption) ?k3; (case k1 => assumption); (case k2 => rfl); intro W)
  | (refine' FR.with1 7 ?k1 ?k2 (by assumption) (by assumption) ?k3; (case k1 => assumption); (case k2 => rfl); intro W)
  | (refine' FR.with1 8 ?k1 ?k2 (by assumption) (by assumption) ?k3; (case k1 => assumption); (case k2 => rfl); intro W)
  | (refine' FR.with1 9 ?k1 ?k2 (by assumption) (by assumption) ?k3; (case k1 => assumption); (case k2 => rfl); intro W)
  | (refine' FR.with1 10 ?k1 ?k2 (by assumption) (by assumption) ?k3; (case k1 => assumption); (case k2 => rfl); intro W)
  | (refine' FR.with1 11 ?k1 ?k2 (by assumption) (by assumption) ?k3; (case k1 => assumption); (case k2 => rfl); intro W)
  | (refine' FR.with1 12 ?k1 ?k2 (by assumption) (by assumption) ?k3; (case k1 => assumption); (case k2 => rfl); intro W)
  | (refine' FR.with1 13 ?k1 ?k2 (by assumption) (by assumption) ?k3; (case k1 => assumption); (case k2 => rfl); intro W))
local macro_rules | `(tactic| walk_at "obj") => `(tactic| first
  | (refine FR.NewO.mk ?_; intro p H np kp hp; refine' FR.withN ?k1 np kp hp ?k2; (case k1 => assumption); intro W)
  | (refine FR.NewS.mk ?_; intro p H np sp kp hp; refine' FR.withN ?k1 np kp hp ?k2; (case k1 => assumption); intro W)
  | (refine FR.MutO.mk ?_; intro H kp hp; walk_at "w1"))
local macro_rules | `(tactic| walk_at "sz") => `(tactic| exact FR.size_ok (by (try simp only [List.length_map, List.length_append, List.length_cons, List.length_nil]); omega))
local macro_rules | `(tactic| walk_at "rd1") => `(tactic| first
  | (refine ⟨_, rfl, ?_⟩)
  | (refine ⟨_, _, rfl, rfl, ?_⟩)
  | (refine ⟨_, _, rfl, ?_⟩)
  | (refine' ⟨_, _, _, _, rfl, rfl, ?k1, ?k2, ?k3⟩; (case k1 => walk_at "hp"); (case k2 => rfl); walk_at "obj")
  | (refine' ⟨_, _, _, _, rfl, rfl, ?k1, ?k2, ?k3⟩; (case k1 => walk_at "sq"); (case k2 => rfl))
  | walk_at "obj"
  | (refine' ⟨_, _, _, rfl, rfl, ?k1, ?k2, ?k3⟩; (case k1 => walk_at "hp"); (case k2 => walk_at "sz"); walk_at "obj")
  | (refine And.intro (show List.length _ ≤ PySem.sizeLine from Nat.le_of_ble_eq_true rfl) ?_; walk_at "obj")
  | (refine' ⟨_, _, rfl, Or.inl ?k1, ?k2⟩; (case k1 => walk_at "sq"))
  | (refine FR.ifT rfl ?_) | (refine FR.ifF rfl ?_)
  | (refine And.intro (show L2.scal _ _ = true from rfl) ?_)
  | (refine And.intro (show L2.tyV _ "str" (L2.V.str _) _ from rfl) ?_)
  | (refine' And.intro (show L2.tyV _ "list" (L2.V.ref _) _ from Or.inl ⟨rfl, _, ?k1⟩) ?k2; (case k1 => walk_at "sq"))
  | (refine And.intro (Exists.intro _ rfl) ?_)
  | (refine And.intro (show L2.wipe _ _ = L2.wipe _ _ from rfl) ?_)
  | (refine And.intro (by walk_at "cd") ?_)
  | walk_at "isi")
local macro_rules | `(tactic| walk_at "rd") => `(tactic| repeat walk_at "rd1")
local macro_rules | `(tactic| walk_at "take") => `(tactic| (refine' ⟨_, _, _, _, _, _, rfl, ?k1, ?k2, ?k3, ?k4, ?k5, ?k6⟩; (case k1 => walk_at "hp"); (case k2 => assumption); (case k3 => omega); (case k4 => first | decide | omega); (case k5 => first | decide | omega); intro d x y z H d0 d1 ok kp hb; walk_at "w1"))
local macro_rules | `(tactic| walk_at "kwb") => `(tactic| (intro kV doc pm an cdv ct us ws l1 l2; match us, ws, l1, l2 with | [_], [_], _, _ => rfl))
set_option Elab.async false
set_option linter.all false
set_option maxRecDepth 100000
namespace K28
open PySem PySem.Spec PyProof.Rows L2 FR
def top (i : Nat) : Stmt := PySem.Challenge.pw_filerights_k28_judge_refused.main.body.getD i (.Pass ⟨0, 0, 0, 0⟩)
def inCls (s : Stmt) (j : Nat) : Stmt := match s with
  | .ClassDef _ _ _ b _ _ _ _ _ _ _ => b.getD j (.Pass ⟨0, 0, 0, 0⟩)
  | _ => .Pass ⟨0, 0, 0, 0⟩
abbrev s__wall : Stmt := top 0
abbrev N__wall : List Str := ["k"]
theorem sc__wall : FnScope N__wall ["k"] (defScope s__wall) := ⟨rfl, rfl, rfl, by decide +kernel, rfl, by decide +kernel, by decide +kernel⟩
abbrev s_is_integer : Stmt := top 14
abbrev N_is_integer : List Str := ["value", "low", "high"]
theorem sc_is_integer : FnScope N_is_integer ["value", "low", "high"] (defScope s_is_integer) := ⟨rfl, rfl, rfl, by decide +kernel, rfl, by decide +kernel, by decide +kernel⟩
abbrev s_is_name : Stmt := top 15
abbrev N_is_name : List Str := ["value"]
theorem sc_is_name : FnScope N_is_name ["value"] (defScope s_is_name) := ⟨rfl, rfl, rfl, by decide +kernel, rfl, by decide +kernel, by decide +kernel⟩
abbrev s_is_user_name : Stmt := top 16
abbrev N_is_user_name : List Str := ["value"]
theorem sc_is_user_name : FnScope N_is_user_name ["value"] (defScope s_is_user_name) := ⟨rfl, rfl, rfl, by decide +kernel, rfl, by decide +kernel, by decide +kernel⟩
abbrev s_is_list : Stmt := top 17
abbrev N_is_list : List Str := ["value"]
theorem sc_is_list : FnScope N_is_list ["value"] (defScope s_is_list) := ⟨rfl, rfl, rfl, by decide +kernel, rfl, by decide +kernel, by decide +kernel⟩
abbrev s_as_rights : Stmt := top 24
abbrev N_as_rights : List Str := ["value"]
theorem sc_as_rights : FnScope N_as_rights ["value"] (defScope s_as_rights) := ⟨rfl, rfl, rfl, by decide +kernel, rfl, by decide +kernel, by decide +kernel⟩
abbrev s_as_digit : Stmt := top 25
abbrev N_as_digit : List Str := ["value"]
theorem sc_as_digit : FnScope N_as_digit ["value"] (defScope s_as_digit) := ⟨rfl, rfl, rfl, by decide +kernel, rfl, by decide +kernel, by decide +kernel⟩
abbrev s__is_letters : Stmt := top 26
abbrev N__is_letters : List Str := ["value"]
theorem sc__is_letters : FnScope N__is_letters ["value"] (defScope s__is_letters) := ⟨rfl, rfl, rfl, by decide +kernel, rfl, by decide +kernel, by decide +kernel⟩
abbrev s__digit_of : Stmt := top 27
abbrev N__digit_of : List Str := ["value"]
theorem sc__digit_of : FnScope N__digit_of ["value"] (defScope s__digit_of) := ⟨rfl, rfl, rfl, by decide +kernel, rfl, by decide +kernel, by decide +kernel⟩
abbrev s__named_rights : Stmt := top 32
abbrev N__named_rights : List Str := ["value", "named", "name"]
theorem sc__named_rights : FnScope N__named_rights ["value"] (defScope s__named_rights) := ⟨rfl, rfl, rfl, by decide +kernel, rfl, by decide +kernel, by decide +kernel⟩
abbrev s__keys_in_order : Stmt := top 33
abbrev N__keys_in_order : List Str := ["value", "strings", "key"]
theorem sc__keys_in_order : FnScope N__keys_in_order ["value"] (defScope s__keys_in_order) := ⟨rfl, rfl, rfl, by decide +kernel, rfl, by decide +kernel, by decide +kernel⟩
abbrev s_is_owner : Stmt := top 38
abbrev N_is_owner : List Str := ["people", "value"]
theorem sc_is_owner : FnScope N_is_owner ["people", "value"] (defScope s_is_owner) := ⟨rfl, rfl, rfl, by decide +kernel, rfl, by decide +kernel, by decide +kernel⟩
abbrev s_is_owner_group : Stmt := top 39
abbrev N_is_owner_group : List Str := ["people", "value"]
theorem sc_is_owner_group : FnScope N_is_owner_group ["people", "value"] (defScope s_is_owner_group) := ⟨rfl, rfl, rfl, by decide +kernel, rfl, by decide +kernel, by decide +kernel⟩
abbrev s__are_users : Stmt := top 40
abbrev N__are_users : List Str := ["value", "name"]
theorem sc__are_users : FnScope N__are_users ["value"] (defScope s__are_users) := ⟨rfl, rfl, rfl, by decide +kernel, rfl, by decide +kernel, by decide +kernel⟩
abbrev s__are_groups : Stmt := top 41
abbrev N__are_groups : List Str := ["value", "name"]
theorem sc__are_groups : FnScope N__are_groups ["value"] (defScope s__are_groups) := ⟨rfl, rfl, rfl, by decide +kernel, rfl, by decide +kernel, by decide +kernel⟩
abbrev s_granting_digits : Stmt := top 44
abbrev N_granting_digits : List Str := ["people", "user", "owner", "group", "access", "kind", "name", "digit"]
theorem sc_granting_digits : FnScope N_granting_digits ["people", "user", "owner", "group", "access"] (defScope s_granting_digits) := ⟨rfl, rfl, rfl, by decide +kernel, rfl, by decide +kernel, by decide +kernel⟩
abbrev s__fitting : Stmt := top 45
abbrev N__fitting : List Str := ["people", "user", "owner", "group", "access", "mask", "users", "held", "named", "fitting", "name"]
theorem sc__fitting : FnScope N__fitting ["people", "user", "owner", "group", "access"] (defScope s__fitting) := ⟨rfl, rfl, rfl, by decide +kernel, rfl, by decide +kernel, by decide +kernel⟩
abbrev s_cell : Stmt := top 47
abbrev N_cell : List Str := ["_law_script", "_law_k"]
theorem sc_cell : FnScope N_cell ["_law_script", "_law_k"] (defScope s_cell) := ⟨rfl, rfl, rfl, by decide +kernel, rfl, by decide +kernel, by decide +kernel⟩
abbrev s_bag : Stmt := top 48
abbrev N_bag : List Str := ["_law_number"]
theorem sc_bag : FnScope N_bag ["_law_number"] (defScope s_bag) := ⟨rfl, rfl, rfl, by decide +kernel, rfl, by decide +kernel, by decide +kernel⟩
abbrev s_take : Stmt := top 49
abbrev N_take : List Str := ["_law_bag_here", "_law_count", "_law_digit", "_law_mixed"]
theorem sc_take : FnScope N_take ["_law_bag_here", "_law_count"] (defScope s_take) := ⟨rfl, rfl, rfl, by decide +kernel, rfl, by decide +kernel, by decide +kernel⟩
abbrev s_bad : Stmt := top 50
abbrev N_bad : List Str := ["_law_bag_here", "_law_at", "_law_some"]
theorem sc_bad : FnScope N_bad ["_law_bag_here", "_law_at"] (defScope s_bad) := ⟨rfl, rfl, rfl, by decide +kernel, rfl, by decide +kernel, by decide +kernel⟩
abbrev s_asked : Stmt := top 51
abbrev N_asked : List Str := ["_law_judge", "_law_way", "_law_things"]
theorem sc_asked : FnScope N_asked ["_law_judge", "_law_way", "_law_things"] (defScope s_asked) := ⟨rfl, rfl, rfl, by decide +kernel, rfl, by decide +kernel, by decide +kernel⟩
abbrev s_tried : Stmt := top 52
abbrev N_tried : List Str := ["_law_judge", "_law_way", "_law_things", "e"]
theorem sc_tried : FnScope N_tried ["_law_judge", "_law_way", "_law_things"] (defScope s_tried) := ⟨rfl, rfl, rfl, by decide +kernel, rfl, by decide +kernel, by decide +kernel⟩
abbrev s_no_people : Stmt := top 53
abbrev N_no_people : List Str := ["_law_thing", "e"]
theorem sc_no_people : FnScope N_no_people ["_law_thing"] (defScope s_no_people) := ⟨rfl, rfl, rfl, by decide +kernel, rfl, by decide +kernel, by decide +kernel⟩
abbrev s_law : Stmt := top 54
abbrev N_law : List Str := ["_law_script", "_law_people", "_law_judge", "_law_k", "_law_bag_here", "_law_good", "_law_things", "_law_places", "_law_turn", "_law_at", "_law_first", "_law_due", "_law_way", "_law_expected"]
theorem sc_law : FnScope N_law ["_law_script"] (defScope s_law) := ⟨rfl, rfl, rfl, by decide +kernel, rfl, by decide +kernel, by decide +kernel⟩
abbrev s_Rights___init__ : Stmt := inCls (top 23) 0
abbrev N_Rights___init__ : List Str := ["self", "letters"]
theorem sc_Rights___init__ : FnScope N_Rights___init__ ["self", "letters"] (defScope s_Rights___init__) := ⟨rfl, rfl, rfl, by decide +kernel, rfl, by decide +kernel, by decide +kernel⟩
abbrev s_Rights_of : Stmt := inCls (top 23) 1
abbrev N_Rights_of : List Str := ["cls", "parts", "whole", "part"]
theorem sc_Rights_of : FnScope N_Rights_of ["cls", "parts"] (defScope s_Rights_of) := ⟨rfl, rfl, rfl, by decide +kernel, rfl, by decide +kernel, by decide +kernel⟩
abbrev s_Rights_from_digit : Stmt := inCls (top 23) 2
abbrev N_Rights_from_digit : List Str := ["cls", "digit"]
theorem sc_Rights_from_digit : FnScope N_Rights_from_digit ["cls", "digit"] (defScope s_Rights_from_digit) := ⟨rfl, rfl, rfl, by decide +kernel, rfl, by decide +kernel, by decide +kernel⟩
abbrev s_Rights_digit : Stmt := inCls (top 23) 3
abbrev N_Rights_digit : List Str := ["self"]
theorem sc_Rights_digit : FnScope N_Rights_digit ["self"] (defScope s_Rights_digit) := ⟨rfl, rfl, rfl, by decide +kernel, rfl, by decide +kernel, by decide +kernel⟩
abbrev s_Rights_listed : Stmt := inCls (top 23) 4
abbrev N_Rights_listed : List Str := ["self"]
theorem sc_Rights_listed : FnScope N_Rights_listed ["self"] (defScope s_Rights_listed) := ⟨rfl, rfl, rfl, by decide +kernel, rfl, by decide +kernel, by decide +kernel⟩
abbrev s_Rights_covers : Stmt := inCls (top 23) 5
abbrev N_Rights_covers : List Str := ["self", "other"]
theorem sc_Rights_covers : FnScope N_Rights_covers ["self", "other"] (defScope s_Rights_covers) := ⟨rfl, rfl, rfl, by decide +kernel, rfl, by decide +kernel, by decide +kernel⟩
abbrev s_Rights___or__ : Stmt := inCls (top 23) 6
abbrev N_Rights___or__ : List Str := ["self", "other"]
theorem sc_Rights___or__ : FnScope N_Rights___or__ ["self", "other"] (defScope s_Rights___or__) := ⟨rfl, rfl, rfl, by decide +kernel, rfl, by decide +kernel, by decide +kernel⟩
abbrev s_Rights___and__ : Stmt := inCls (top 23) 7
abbrev N_Rights___and__ : List Str := ["self", "other"]
theorem sc_Rights___and__ : FnScope N_Rights___and__ ["self", "other"] (defScope s_Rights___and__) := ⟨rfl, rfl, rfl, by decide +kernel, rfl, by decide +kernel, by decide +kernel⟩
abbrev s_Rights___sub__ : Stmt := inCls (top 23) 8
abbrev N_Rights___sub__ : List Str := ["self", "other"]
theorem sc_Rights___sub__ : FnScope N_Rights___sub__ ["self", "other"] (defScope s_Rights___sub__) := ⟨rfl, rfl, rfl, by decide +kernel, rfl, by decide +kernel, by decide +kernel⟩
abbrev s_Rights___xor__ : Stmt := inCls (top 23) 9
abbrev N_Rights___xor__ : List Str := ["self", "other"]
theorem sc_Rights___xor__ : FnScope N_Rights___xor__ ["self", "other"] (defScope s_Rights___xor__) := ⟨rfl, rfl, rfl, by decide +kernel, rfl, by decide +kernel, by decide +kernel⟩
abbrev s_Rights___invert__ : Stmt := inCls (top 23) 10
abbrev N_Rights___invert__ : List Str := ["self"]
theorem sc_Rights___invert__ : FnScope N_Rights___invert__ ["self"] (defScope s_Rights___invert__) := ⟨rfl, rfl, rfl, by decide +kernel, rfl, by decide +kernel, by decide +kernel⟩
abbrev s_Rights___eq__ : Stmt := inCls (top 23) 11
abbrev N_Rights___eq__ : List Str := ["self", "other"]
theorem sc_Rights___eq__ : FnScope N_Rights___eq__ ["self", "other"] (defScope s_Rights___eq__) := ⟨rfl, rfl, rfl, by decide +kernel, rfl, by decide +kernel, by decide +kernel⟩
abbrev s_Rights___contains__ : Stmt := inCls (top 23) 12
abbrev N_Rights___contains__ : List Str := ["self", "value"]
theorem sc_Rights___contains__ : FnScope N_Rights___contains__ ["self", "value"] (defScope s_Rights___contains__) := ⟨rfl, rfl, rfl, by decide +kernel, rfl, by decide +kernel, by decide +kernel⟩
abbrev s_Rights___len__ : Stmt := inCls (top 23) 13
abbrev N_Rights___len__ : List Str := ["self"]
theorem sc_Rights___len__ : FnScope N_Rights___len__ ["self"] (defScope s_Rights___len__) := ⟨rfl, rfl, rfl, by decide +kernel, rfl, by decide +kernel, by decide +kernel⟩
abbrev s_Rights___bool__ : Stmt := inCls (top 23) 14
abbrev N_Rights___bool__ : List Str := ["self"]
theorem sc_Rights___bool__ : FnScope N_Rights___bool__ ["self"] (defScope s_Rights___bool__) := ⟨rfl, rfl, rfl, by decide +kernel, rfl, by decide +kernel, by decide +kernel⟩
abbrev s_Rights___str__ : Stmt := inCls (top 23) 15
abbrev N_Rights___str__ : List Str := ["self", "letter"]
theorem sc_Rights___str__ : FnScope N_Rights___str__ ["self"] (defScope s_Rights___str__) := ⟨rfl, rfl, rfl, by decide +kernel, rfl, by decide +kernel, by decide +kernel⟩
abbrev s_Rights___repr__ : Stmt := inCls (top 23) 16
abbrev N_Rights___repr__ : List Str := ["self"]
theorem sc_Rights___repr__ : FnScope N_Rights___repr__ ["self"] (defScope s_Rights___repr__) := ⟨rfl, rfl, rfl, by decide +kernel, rfl, by decide +kernel, by decide +kernel⟩
abbrev s_AccessList___init__ : Stmt := inCls (top 31) 0
abbrev N_AccessList___init__ : List Str := ["self", "owner", "group", "other", "users", "groups", "mask"]
theorem sc_AccessList___init__ : FnScope N_AccessList___init__ ["self", "owner", "group", "other", "users", "groups", "mask"] (defScope s_AccessList___init__) := ⟨rfl, rfl, rfl, by decide +kernel, rfl, by decide +kernel, by decide +kernel⟩
abbrev s_AccessList__first_mask : Stmt := inCls (top 31) 1
abbrev N_AccessList__first_mask : List Str := ["self", "named"]
theorem sc_AccessList__first_mask : FnScope N_AccessList__first_mask ["self"] (defScope s_AccessList__first_mask) := ⟨rfl, rfl, rfl, by decide +kernel, rfl, by decide +kernel, by decide +kernel⟩
abbrev s_AccessList_plain : Stmt := inCls (top 31) 2
abbrev N_AccessList_plain : List Str := ["cls", "digits"]
theorem sc_AccessList_plain : FnScope N_AccessList_plain ["cls", "digits"] (defScope s_AccessList_plain) := ⟨rfl, rfl, rfl, by decide +kernel, rfl, by decide +kernel, by decide +kernel⟩
abbrev s_AccessList_everything : Stmt := inCls (top 31) 3
abbrev N_AccessList_everything : List Str := []
theorem sc_AccessList_everything : FnScope N_AccessList_everything [] (defScope s_AccessList_everything) := ⟨rfl, rfl, rfl, by decide +kernel, rfl, by decide +kernel, by decide +kernel⟩
abbrev s_AccessList_from_text : Stmt := inCls (top 31) 4
abbrev N_AccessList_from_text : List Str := ["cls", "text"]
theorem sc_AccessList_from_text : FnScope N_AccessList_from_text ["cls", "text"] (defScope s_AccessList_from_text) := ⟨rfl, rfl, rfl, by decide +kernel, rfl, by decide +kernel, by decide +kernel⟩
abbrev s_AccessList_owner : Stmt := inCls (top 31) 5
abbrev N_AccessList_owner : List Str := ["self"]
theorem sc_AccessList_owner : FnScope N_AccessList_owner ["self"] (defScope s_AccessList_owner) := ⟨rfl, rfl, rfl, by decide +kernel, rfl, by decide +kernel, by decide +kernel⟩
abbrev s_AccessList_group : Stmt := inCls (top 31) 6
abbrev N_AccessList_group : List Str := ["self"]
theorem sc_AccessList_group : FnScope N_AccessList_group ["self"] (defScope s_AccessList_group) := ⟨rfl, rfl, rfl, by decide +kernel, rfl, by decide +kernel, by decide +kernel⟩
abbrev s_AccessList_other : Stmt := inCls (top 31) 7
abbrev N_AccessList_other : List Str := ["self"]
theorem sc_AccessList_other : FnScope N_AccessList_other ["self"] (defScope s_AccessList_other) := ⟨rfl, rfl, rfl, by decide +kernel, rfl, by decide +kernel, by decide +kernel⟩
abbrev s_AccessList_mask : Stmt := inCls (top 31) 8
abbrev N_AccessList_mask : List Str := ["self"]
theorem sc_AccessList_mask : FnScope N_AccessList_mask ["self"] (defScope s_AccessList_mask) := ⟨rfl, rfl, rfl, by decide +kernel, rfl, by decide +kernel, by decide +kernel⟩
abbrev s_AccessList_digits : Stmt := inCls (top 31) 9
abbrev N_AccessList_digits : List Str := ["self"]
theorem sc_AccessList_digits : FnScope N_AccessList_digits ["self"] (defScope s_AccessList_digits) := ⟨rfl, rfl, rfl, by decide +kernel, rfl, by decide +kernel, by decide +kernel⟩
abbrev s_AccessList__middle : Stmt := inCls (top 31) 10
abbrev N_AccessList__middle : List Str := ["self"]
theorem sc_AccessList__middle : FnScope N_AccessList__middle ["self"] (defScope s_AccessList__middle) := ⟨rfl, rfl, rfl, by decide +kernel, rfl, by decide +kernel, by decide +kernel⟩
abbrev s_AccessList_users : Stmt := inCls (top 31) 11
abbrev N_AccessList_users : List Str := ["self"]
theorem sc_AccessList_users : FnScope N_AccessList_users ["self"] (defScope s_AccessList_users) := ⟨rfl, rfl, rfl, by decide +kernel, rfl, by decide +kernel, by decide +kernel⟩
abbrev s_AccessList_groups : Stmt := inCls (top 31) 12
abbrev N_AccessList_groups : List Str := ["self"]
theorem sc_AccessList_groups : FnScope N_AccessList_groups ["self"] (defScope s_AccessList_groups) := ⟨rfl, rfl, rfl, by decide +kernel, rfl, by decide +kernel, by decide +kernel⟩
abbrev s_AccessList_entries : Stmt := inCls (top 31) 13
abbrev N_AccessList_entries : List Str := ["self", "masks", "name"]
theorem sc_AccessList_entries : FnScope N_AccessList_entries ["self"] (defScope s_AccessList_entries) := ⟨rfl, rfl, rfl, by decide +kernel, rfl, by decide +kernel, by decide +kernel⟩
abbrev s_AccessList_with_entry : Stmt := inCls (top 31) 14
abbrev N_AccessList_with_entry : List Str := ["self", "kind", "rights", "name"]
theorem sc_AccessList_with_entry : FnScope N_AccessList_with_entry ["self", "kind", "rights", "name"] (defScope s_AccessList_with_entry) := ⟨rfl, rfl, rfl, by decide +kernel, rfl, by decide +kernel, by decide +kernel⟩
abbrev s_AccessList_without : Stmt := inCls (top 31) 15
abbrev N_AccessList_without : List Str := ["self", "kind", "name"]
theorem sc_AccessList_without : FnScope N_AccessList_without ["self", "kind", "name"] (defScope s_AccessList_without) := ⟨rfl, rfl, rfl, by decide +kernel, rfl, by decide +kernel, by decide +kernel⟩
abbrev s_AccessList_with_digits : Stmt := inCls (top 31) 16
abbrev N_AccessList_with_digits : List Str := ["self", "digits"]
theorem sc_AccessList_with_digits : FnScope N_AccessList_with_digits ["self", "digits"] (defScope s_AccessList_with_digits) := ⟨rfl, rfl, rfl, by decide +kernel, rfl, by decide +kernel, by decide +kernel⟩
abbrev s_AccessList_narrowed : Stmt := inCls (top 31) 17
abbrev N_AccessList_narrowed : List Str := ["self", "digits"]
theorem sc_AccessList_narrowed : FnScope N_AccessList_narrowed ["self", "digits"] (defScope s_AccessList_narrowed) := ⟨rfl, rfl, rfl, by decide +kernel, rfl, by decide +kernel, by decide +kernel⟩
abbrev s_AccessList__with_three : Stmt := inCls (top 31) 18
abbrev N_AccessList__with_three : List Str := ["self", "owner", "middle", "other"]
theorem sc_AccessList__with_three : FnScope N_AccessList__with_three ["self", "owner", "middle", "other"] (defScope s_AccessList__with_three) := ⟨rfl, rfl, rfl, by decide +kernel, rfl, by decide +kernel, by decide +kernel⟩
abbrev s_AccessList__by_entry : Stmt := inCls (top 31) 19
abbrev N_AccessList__by_entry : List Str := ["self"]
theorem sc_AccessList__by_entry : FnScope N_AccessList__by_entry ["self"] (defScope s_AccessList__by_entry) := ⟨rfl, rfl, rfl, by decide +kernel, rfl, by decide +kernel, by decide +kernel⟩
abbrev s_AccessList___eq__ : Stmt := inCls (top 31) 20
abbrev N_AccessList___eq__ : List Str := ["self", "other"]
theorem sc_AccessList___eq__ : FnScope N_AccessList___eq__ ["self", "other"] (defScope s_AccessList___eq__) := ⟨rfl, rfl, rfl, by decide +kernel, rfl, by decide +kernel, by decide +kernel⟩
abbrev s_AccessList___len__ : Stmt := inCls (top 31) 21
abbrev N_AccessList___len__ : List Str := ["self"]
theorem sc_AccessList___len__ : FnScope N_AccessList___len__ ["self"] (defScope s_AccessList___len__) := ⟨rfl, rfl, rfl, by decide +kernel, rfl, by decide +kernel, by decide +kernel⟩
abbrev s_AccessList___str__ : Stmt := inCls (top 31) 22
abbrev N_AccessList___str__ : List Str := ["self", "kind", "name", "rights"]
theorem sc_AccessList___str__ : FnScope N_AccessList___str__ ["self"] (defScope s_AccessList___str__) := ⟨rfl, rfl, rfl, by decide +kernel, rfl, by decide +kernel, by decide +kernel⟩
abbrev s_AccessList___repr__ : Stmt := inCls (top 31) 23
abbrev N_AccessList___repr__ : List Str := ["self"]
theorem sc_AccessList___repr__ : FnScope N_AccessList___repr__ ["self"] (defScope s_AccessList___repr__) := ⟨rfl, rfl, rfl, by decide +kernel, rfl, by decide +kernel, by decide +kernel⟩
abbrev s_People___init__ : Stmt := inCls (top 37) 0
abbrev N_People___init__ : List Str := ["self", "members", "user", "group"]
theorem sc_People___init__ : FnScope N_People___init__ ["self", "members"] (defScope s_People___init__) := ⟨rfl, rfl, rfl, by decide +kernel, rfl, by decide +kernel, by decide +kernel⟩
abbrev s_People_users : Stmt := inCls (top 37) 1
abbrev N_People_users : List Str := ["self"]
theorem sc_People_users : FnScope N_People_users ["self"] (defScope s_People_users) := ⟨rfl, rfl, rfl, by decide +kernel, rfl, by decide +kernel, by decide +kernel⟩
abbrev s_People_groups : Stmt := inCls (top 37) 2
abbrev N_People_groups : List Str := ["self"]
theorem sc_People_groups : FnScope N_People_groups ["self"] (defScope s_People_groups) := ⟨rfl, rfl, rfl, by decide +kernel, rfl, by decide +kernel, by decide +kernel⟩
abbrev s_People_groups_of : Stmt := inCls (top 37) 3
abbrev N_People_groups_of : List Str := ["self", "user"]
theorem sc_People_groups_of : FnScope N_People_groups_of ["self", "user"] (defScope s_People_groups_of) := ⟨rfl, rfl, rfl, by decide +kernel, rfl, by decide +kernel, by decide +kernel⟩
abbrev s_People_first_group : Stmt := inCls (top 37) 4
abbrev N_People_first_group : List Str := ["self", "user"]
theorem sc_People_first_group : FnScope N_People_first_group ["self", "user"] (defScope s_People_first_group) := ⟨rfl, rfl, rfl, by decide +kernel, rfl, by decide +kernel, by decide +kernel⟩
abbrev s_People_members : Stmt := inCls (top 37) 5
abbrev N_People_members : List Str := ["self", "group", "user"]
theorem sc_People_members : FnScope N_People_members ["self", "group"] (defScope s_People_members) := ⟨rfl, rfl, rfl, by decide +kernel, rfl, by decide +kernel, by decide +kernel⟩
abbrev s_People___contains__ : Stmt := inCls (top 37) 6
abbrev N_People___contains__ : List Str := ["self", "value"]
theorem sc_People___contains__ : FnScope N_People___contains__ ["self", "value"] (defScope s_People___contains__) := ⟨rfl, rfl, rfl, by decide +kernel, rfl, by decide +kernel, by decide +kernel⟩
abbrev s_People___len__ : Stmt := inCls (top 37) 7
abbrev N_People___len__ : List Str := ["self"]
theorem sc_People___len__ : FnScope N_People___len__ ["self"] (defScope s_People___len__) := ⟨rfl, rfl, rfl, by decide +kernel, rfl, by decide +kernel, by decide +kernel⟩
abbrev s_People___eq__ : Stmt := inCls (top 37) 8
abbrev N_People___eq__ : List Str := ["self", "other"]
theorem sc_People___eq__ : FnScope N_People___eq__ ["self", "other"] (defScope s_People___eq__) := ⟨rfl, rfl, rfl, by decide +kernel, rfl, by decide +kernel, by decide +kernel⟩
abbrev s_People___repr__ : Stmt := inCls (top 37) 9
abbrev N_People___repr__ : List Str := ["self"]
theorem sc_People___repr__ : FnScope N_People___repr__ ["self"] (defScope s_People___repr__) := ⟨rfl, rfl, rfl, by decide +kernel, rfl, by decide +kernel, by decide +kernel⟩
abbrev s_Judge___init__ : Stmt := inCls (top 43) 0
abbrev N_Judge___init__ : List Str := ["self", "people"]
theorem sc_Judge___init__ : FnScope N_Judge___init__ ["self", "people"] (defScope s_Judge___init__) := ⟨rfl, rfl, rfl, by decide +kernel, rfl, by decide +kernel, by decide +kernel⟩
abbrev s_Judge___call__ : Stmt := inCls (top 43) 1
abbrev N_Judge___call__ : List Str := ["self", "user", "owner", "group", "access", "letters", "wanted", "digit"]
theorem sc_Judge___call__ : FnScope N_Judge___call__ ["self", "user", "owner", "group", "access", "letters"] (defScope s_Judge___call__) := ⟨rfl, rfl, rfl, by decide +kernel, rfl, by decide +kernel, by decide +kernel⟩
abbrev s_Judge_deciding : Stmt := inCls (top 43) 2
abbrev N_Judge_deciding : List Str := ["self", "user", "owner", "group", "access", "letters", "wanted", "fitting", "granting", "kind", "name", "digit"]
theorem sc_Judge_deciding : FnScope N_Judge_deciding ["self", "user", "owner", "group", "access", "letters"] (defScope s_Judge_deciding) := ⟨rfl, rfl, rfl, by decide +kernel, rfl, by decide +kernel, by decide +kernel⟩
abbrev s_Judge_letters_of : Stmt := inCls (top 43) 3
abbrev N_Judge_letters_of : List Str := ["self", "user", "owner", "group", "access", "whole", "digit"]
theorem sc_Judge_letters_of : FnScope N_Judge_letters_of ["self", "user", "owner", "group", "access"] (defScope s_Judge_letters_of) := ⟨rfl, rfl, rfl, by decide +kernel, rfl, by decide +kernel, by decide +kernel⟩
abbrev s_Judge__check : Stmt := inCls (top 43) 4
abbrev N_Judge__check : List Str := ["self", "user", "owner", "group", "access"]
theorem sc_Judge__check : FnScope N_Judge__check ["self", "user", "owner", "group", "access"] (defScope s_Judge__check) := ⟨rfl, rfl, rfl, by decide +kernel, rfl, by decide +kernel, by decide +kernel⟩
structure Ads where
  f__wall : Addr
  d__wall : FuncData
  f_is_integer : Addr
  d_is_integer : FuncData
  f_is_name : Addr
  d_is_name : FuncData
  f_is_user_name : Addr
  d_is_user_name : FuncData
  f_is_list : Addr
  d_is_list : FuncData
  f_as_rights : Addr
  d_as_rights : FuncData
  f_as_digit : Addr
  d_as_digit : FuncData
  f__is_letters : Addr
  d__is_letters : FuncData
  f__digit_of : Addr
  d__digit_of : FuncData
  f__named_rights : Addr
  d__named_rights : FuncData
  f__keys_in_order : Addr
  d__keys_in_order : FuncData
  f_is_owner : Addr
  d_is_owner : FuncData
  f_is_owner_group : Addr
  d_is_owner_group : FuncData
  f__are_users : Addr
  d__are_users : FuncData
  f__are_groups : Addr
  d__are_groups : FuncData
  f_granting_digits : Addr
  d_granting_digits : FuncData
  f__fitting : Addr
  d__fitting : FuncData
  f_cell : Addr
  d_cell : FuncData
  f_bag : Addr
  d_bag : FuncData
  f_take : Addr
  d_take : FuncData
  f_bad : Addr
  d_bad : FuncData
  f_asked : Addr
  d_asked : FuncData
  f_tried : Addr
  d_tried : FuncData
  f_no_people : Addr
  d_no_people : FuncData
  f_law : Addr
  d_law : FuncData
  f_Rights___init__ : Addr
  d_Rights___init__ : FuncData
  f_Rights_of : Addr
  d_Rights_of : FuncData
  P_Rights_of : Addr
  f_Rights_from_digit : Addr
  d_Rights_from_digit : FuncData
  P_Rights_from_digit : Addr
  f_Rights_digit : Addr
  d_Rights_digit : FuncData
  P_Rights_digit : Addr
  f_Rights___or__ : Addr
  d_Rights___or__ : FuncData
  f_AccessList___init__ : Addr
  d_AccessList___init__ : FuncData
  f_AccessList__first_mask : Addr
  d_AccessList__first_mask : FuncData
  f_AccessList_owner : Addr
  d_AccessList_owner : FuncData
  P_AccessList_owner : Addr
  f_AccessList_group : Addr
  d_AccessList_group : FuncData
  P_AccessList_group : Addr
  f_AccessList_other : Addr
  d_AccessList_other : FuncData
  P_AccessList_other : Addr
  f_AccessList_mask : Addr
  d_AccessList_mask : FuncData
  P_AccessList_mask : Addr
  f_AccessList_users : Addr
  d_AccessList_users : FuncData
  f_AccessList_groups : Addr
  d_AccessList_groups : FuncData
  f_People___init__ : Addr
  d_People___init__ : FuncData
  f_People_groups : Addr
  d_People_groups : FuncData
  f_People_groups_of : Addr
  d_People_groups_of : FuncData
  f_People___contains__ : Addr
  d_People___contains__ : FuncData
  f_Judge___init__ : Addr
  d_Judge___init__ : FuncData
  f_Judge___call__ : Addr
  d_Judge___call__ : FuncData
  f_Judge_deciding : Addr
  d_Judge_deciding : FuncData
  f_Judge_letters_of : Addr
  d_Judge_letters_of : FuncData
  f_Judge__check : Addr
  d_Judge__check : FuncData
  C_Rights : Addr
  C_AccessList : Addr
  C_People : Addr
  C_Judge : Addr
  C_InvalidList : Addr
  C_InvalidRights : Addr
  C_InvalidPeople : Addr
  C_UnknownUser : Addr
  C_UnknownGroup : Addr
  C_RightsError : Addr
  C_MissingError : Addr
  I_InvalidList : Addr
  I_InvalidRights : Addr
  I_InvalidPeople : Addr
  I_UnknownUser : Addr
  I_UnknownGroup : Addr
  K_DIGITS : Addr
  K_WORDS : Addr
  K_KIND_SIGNS : Addr
structure Txt (w : World) (K : PySem.W.Frag) (mg : Str → Option Value) (A : Ads) : Prop where
  F__wall : Fun K "_wall" "_wall" s__wall A.f__wall A.d__wall
  B__wall : Binds K A.d__wall ["k"] []
  g__wall : mg "_wall" = some (.ref A.f__wall)
  F_is_integer : Fun K "is_integer" "is_integer" s_is_integer A.f_is_integer A.d_is_integer
  B_is_integer : Binds K A.d_is_integer ["value", "low", "high"] []
  g_is_integer : mg "is_integer" = some (.ref A.f_is_integer)
  F_is_name : Fun K "is_name" "is_name" s_is_name A.f_is_name A.d_is_name
  B_is_name : Binds K A.d_is_name ["value"] []
  g_is_name : mg "is_name" = some (.ref A.f_is_name)
  F_is_user_name : Fun K "is_user_name" "is_user_name" s_is_user_name A.f_is_user_name A.d_is_user_name
  B_is_user_name : Binds K A.d_is_user_name ["value"] []
  g_is_user_name : mg "is_user_name" = some (.ref A.f_is_user_name)
  F_is_list : Fun K "is_list" "is_list" s_is_list A.f_is_list A.d_is_list
  B_is_list : Binds K A.d_is_list ["value"] []
  g_is_list : mg "is_list" = some (.ref A.f_is_list)
  F_as_rights : Fun K "as_rights" "as_rights" s_as_rights A.f_as_rights A.d_as_rights
  B_as_rights : Binds K A.d_as_rights ["value"] []
  g_as_rights : mg "as_rights" = some (.ref A.f_as_rights)
  F_as_digit : Fun K "as_digit" "as_digit" s_as_digit A.f_as_digit A.d_as_digit
  B_as_digit : Binds K A.d_as_digit ["value"] []
  g_as_digit : mg "as_digit" = some (.ref A.f_as_digit)
  F__is_letters : Fun K "_is_letters" "_is_letters" s__is_letters A.f__is_letters A.d__is_letters
  B__is_letters : Binds K A.d__is_letters ["value"] []
  g__is_letters : mg "_is_letters" = some (.ref A.f__is_letters)
  F__digit_of : Fun K "_digit_of" "_digit_of" s__digit_of A.f__digit_of A.d__digit_of
  B__digit_of : Binds K A.d__digit_of ["value"] []
  g__digit_of : mg "_digit_of" = some (.ref A.f__digit_of)
  F__named_rights : Fun K "_named_rights" "_named_rights" s__named_rights A.f__named_rights A.d__named_rights
  B__named_rights : Binds K A.d__named_rights ["value"] []
  g__named_rights : mg "_named_rights" = some (.ref A.f__named_rights)
  F__keys_in_order : Fun K "_keys_in_order" "_keys_in_order" s__keys_in_order A.f__keys_in_order A.d__keys_in_order
  B__keys_in_order : Binds K A.d__keys_in_order ["value"] []
  g__keys_in_order : mg "_keys_in_order" = some (.ref A.f__keys_in_order)
  F_is_owner : Fun K "is_owner" "is_owner" s_is_owner A.f_is_owner A.d_is_owner
  B_is_owner : Binds K A.d_is_owner ["people", "value"] []
  g_is_owner : mg "is_owner" = some (.ref A.f_is_owner)
  F_is_owner_group : Fun K "is_owner_group" "is_owner_group" s_is_owner_group A.f_is_owner_group A.d_is_owner_group
  B_is_owner_group : Binds K A.d_is_owner_group ["people", "value"] []
  g_is_owner_group : mg "is_owner_group" = some (.ref A.f_is_owner_group)
  F__are_users : Fun K "_are_users" "_are_users" s__are_users A.f__are_users A.d__are_users
  B__are_users : Binds K A.d__are_users ["value"] []
  g__are_users : mg "_are_users" = some (.ref A.f__are_users)
  F__are_groups : Fun K "_are_groups" "_are_groups" s__are_groups A.f__are_groups A.d__are_groups
  B__are_groups : Binds K A.d__are_groups ["value"] []
  g__are_groups : mg "_are_groups" = some (.ref A.f__are_groups)
  F_granting_digits : Fun K "granting_digits" "granting_digits" s_granting_digits A.f_granting_digits A.d_granting_digits
  B_granting_digits : Binds K A.d_granting_digits ["people", "user", "owner", "group", "access"] []
  g_granting_digits : mg "granting_digits" = some (.ref A.f_granting_digits)
  F__fitting : Fun K "_fitting" "_fitting" s__fitting A.f__fitting A.d__fitting
  B__fitting : Binds K A.d__fitting ["people", "user", "owner", "group", "access"] []
  g__fitting : mg "_fitting" = some (.ref A.f__fitting)
  F_cell : Fun K "_law_cell" "_law_cell" s_cell A.f_cell A.d_cell
  B_cell : Binds K A.d_cell ["_law_script", "_law_k"] []
  g_cell : mg "_law_cell" = some (.ref A.f_cell)
  F_bag : Fun K "_law_bag" "_law_bag" s_bag A.f_bag A.d_bag
  B_bag : Binds K A.d_bag ["_law_number"] []
  g_bag : mg "_law_bag" = some (.ref A.f_bag)
  F_take : Fun K "_law_take" "_law_take" s_take A.f_take A.d_take
  B_take : Binds K A.d_take ["_law_bag_here", "_law_count"] []
  g_take : mg "_law_take" = some (.ref A.f_take)
  F_bad : Fun K "_law_bad" "_law_bad" s_bad A.f_bad A.d_bad
  B_bad : Binds K A.d_bad ["_law_bag_here", "_law_at"] []
  g_bad : mg "_law_bad" = some (.ref A.f_bad)
  F_asked : Fun K "_law_asked" "_law_asked" s_asked A.f_asked A.d_asked
  B_asked : Binds K A.d_asked ["_law_judge", "_law_way", "_law_things"] []
  g_asked : mg "_law_asked" = some (.ref A.f_asked)
  F_tried : Fun K "_law_tried" "_law_tried" s_tried A.f_tried A.d_tried
  B_tried : Binds K A.d_tried ["_law_judge", "_law_way", "_law_things"] []
  g_tried : mg "_law_tried" = some (.ref A.f_tried)
  F_no_people : Fun K "_law_no_people" "_law_no_people" s_no_people A.f_no_people A.d_no_people
  B_no_people : Binds K A.d_no_people ["_law_thing"] []
  g_no_people : mg "_law_no_people" = some (.ref A.f_no_people)
  F_law : Fun K "law" "law" s_law A.f_law A.d_law
  B_law : Binds K A.d_law ["_law_script"] []
  g_law : mg "law" = some (.ref A.f_law)
  F_Rights___init__ : FunD K "__init__" "Rights.__init__" (defArgs s_Rights___init__) (defBody s_Rights___init__) (defScope s_Rights___init__) [.str ""] [] A.f_Rights___init__ A.d_Rights___init__
  me_Rights___init__ : Meth K A.C_Rights "__init__" A.f_Rights___init__
  F_Rights_of : Fun K "of" "Rights.of" s_Rights_of A.f_Rights_of A.d_Rights_of
  cm_Rights_of : ClX.CMet K A.C_Rights (.type "type") "of" A.P_Rights_of A.f_Rights_of
  F_Rights_from_digit : Fun K "from_digit" "Rights.from_digit" s_Rights_from_digit A.f_Rights_from_digit A.d_Rights_from_digit
  B_Rights_from_digit : Binds K A.d_Rights_from_digit ["cls", "digit"] []
  cm_Rights_from_digit : ClX.CMet K A.C_Rights (.type "type") "from_digit" A.P_Rights_from_digit A.f_Rights_from_digit
  F_Rights_digit : Fun K "digit" "Rights.digit" s_Rights_digit A.f_Rights_digit A.d_Rights_digit
  B_Rights_digit : Binds K A.d_Rights_digit ["self"] []
  pr_Rights_digit : PropOf K A.C_Rights "digit" A.P_Rights_digit A.f_Rights_digit
  F_Rights___or__ : Fun K "__or__" "Rights.__or__" s_Rights___or__ A.f_Rights___or__ A.d_Rights___or__
  B_Rights___or__ : Binds K A.d_Rights___or__ ["self", "other"] []
  me_Rights___or__ : Meth K A.C_Rights "__or__" A.f_Rights___or__
  F_AccessList___init__ : FunD K "__init__" "AccessList.__init__" (defArgs s_AccessList___init__) (defBody s_AccessList___init__) (defScope s_AccessList___init__) [] [("users", .non), ("groups", .non), ("mask", .non)] A.f_AccessList___init__ A.d_AccessList___init__
  me_AccessList___init__ : Meth K A.C_AccessList "__init__" A.f_AccessList___init__
  F_AccessList__first_mask : Fun K "_first_mask" "AccessList._first_mask" s_AccessList__first_mask A.f_AccessList__first_mask A.d_AccessList__first_mask
  B_AccessList__first_mask : Binds K A.d_AccessList__first_mask ["self"] []
  me_AccessList__first_mask : Meth K A.C_AccessList "_first_mask" A.f_AccessList__first_mask
  F_AccessList_owner : Fun K "owner" "AccessList.owner" s_AccessList_owner A.f_AccessList_owner A.d_AccessList_owner
  B_AccessList_owner : Binds K A.d_AccessList_owner ["self"] []
  pr_AccessList_owner : PropOf K A.C_AccessList "owner" A.P_AccessList_owner A.f_AccessList_owner
  F_AccessList_group : Fun K "group" "AccessList.group" s_AccessList_group A.f_AccessList_group A.d_AccessList_group
  B_AccessList_group : Binds K A.d_AccessList_group ["self"] []
  pr_AccessList_group : PropOf K A.C_AccessList "group" A.P_AccessList_group A.f_AccessList_group
  F_AccessList_other : Fun K "other" "AccessList.other" s_AccessList_other A.f_AccessList_other A.d_AccessList_other
  B_AccessList_other : Binds K A.d_AccessList_other ["self"] []
  pr_AccessList_other : PropOf K A.C_AccessList "other" A.P_AccessList_other A.f_AccessList_other
  F_AccessList_mask : Fun K "mask" "AccessList.mask" s_AccessList_mask A.f_AccessList_mask A.d_AccessList_mask
  B_AccessList_mask : Binds K A.d_AccessList_mask ["self"] []
  pr_AccessList_mask : PropOf K A.C_AccessList "mask" A.P_AccessList_mask A.f_AccessList_mask
  F_AccessList_users : Fun K "users" "AccessList.users" s_AccessList_users A.f_AccessList_users A.d_AccessList_users
  B_AccessList_users : Binds K A.d_AccessList_users ["self"] []
  me_AccessList_users : Meth K A.C_AccessList "users" A.f_AccessList_users
  F_AccessList_groups : Fun K "groups" "AccessList.groups" s_AccessList_groups A.f_AccessList_groups A.d_AccessList_groups
  B_AccessList_groups : Binds K A.d_AccessList_groups ["self"] []
  me_AccessList_groups : Meth K A.C_AccessList "groups" A.f_AccessList_groups
  F_People___init__ : Fun K "__init__" "People.__init__" s_People___init__ A.f_People___init__ A.d_People___init__
  B_People___init__ : Binds K A.d_People___init__ ["self", "members"] []
  me_People___init__ : Meth K A.C_People "__init__" A.f_People___init__
  F_People_groups : Fun K "groups" "People.groups" s_People_groups A.f_People_groups A.d_People_groups
  B_People_groups : Binds K A.d_People_groups ["self"] []
  me_People_groups : Meth K A.C_People "groups" A.f_People_groups
  F_People_groups_of : Fun K "groups_of" "People.groups_of" s_People_groups_of A.f_People_groups_of A.d_People_groups_of
  B_People_groups_of : Binds K A.d_People_groups_of ["self", "user"] []
  me_People_groups_of : Meth K A.C_People "groups_of" A.f_People_groups_of
  F_People___contains__ : Fun K "__contains__" "People.__contains__" s_People___contains__ A.f_People___contains__ A.d_People___contains__
  B_People___contains__ : Binds K A.d_People___contains__ ["self", "value"] []
  me_People___contains__ : Meth K A.C_People "__contains__" A.f_People___contains__
  F_Judge___init__ : Fun K "__init__" "Judge.__init__" s_Judge___init__ A.f_Judge___init__ A.d_Judge___init__
  B_Judge___init__ : Binds K A.d_Judge___init__ ["self", "people"] []
  me_Judge___init__ : Meth K A.C_Judge "__init__" A.f_Judge___init__
  F_Judge___call__ : Fun K "__call__" "Judge.__call__" s_Judge___call__ A.f_Judge___call__ A.d_Judge___call__
  B_Judge___call__ : Binds K A.d_Judge___call__ ["self", "user", "owner", "group", "access", "letters"] []
  me_Judge___call__ : Meth K A.C_Judge "__call__" A.f_Judge___call__
  F_Judge_deciding : Fun K "deciding" "Judge.deciding" s_Judge_deciding A.f_Judge_deciding A.d_Judge_deciding
  B_Judge_deciding : Binds K A.d_Judge_deciding ["self", "user", "owner", "group", "access", "letters"] []
  me_Judge_deciding : Meth K A.C_Judge "deciding" A.f_Judge_deciding
  F_Judge_letters_of : Fun K "letters_of" "Judge.letters_of" s_Judge_letters_of A.f_Judge_letters_of A.d_Judge_letters_of
  B_Judge_letters_of : Binds K A.d_Judge_letters_of ["self", "user", "owner", "group", "access"] []
  me_Judge_letters_of : Meth K A.C_Judge "letters_of" A.f_Judge_letters_of
  F_Judge__check : Fun K "_check" "Judge._check" s_Judge__check A.f_Judge__check A.d_Judge__check
  B_Judge__check : Binds K A.d_Judge__check ["self", "user", "owner", "group", "access"] []
  me_Judge__check : Meth K A.C_Judge "_check" A.f_Judge__check
  gC_Rights : mg "Rights" = some (.ref A.C_Rights)
  c_Rights : ∃ u, mg "Rights" = some u ∧ RelV (.ref A.C_Rights) u
  cl_Rights : Cls K A.C_Rights
  mk_Rights : Mk K A.C_Rights A.f_Rights___init__
  cr_Rights : ClX.CRead K A.C_Rights (.type "type")
  in_Rights : C8.InsC K A.C_Rights
  sf_Rights : PySem.W.selfFirst K A.C_Rights = true
  cd_Rights : ∃ cd, PySem.W.clsIn K A.C_Rights = some cd ∧ cd.mro = [.ref A.C_Rights, .type "object"]
  ne_Rights : PySem.W.findIn K (.ref A.C_Rights) "__ne__" = some (some (.builtin "object.__ne__"))
  na_Rights__digit : NoAttr K A.C_Rights "_digit"
  nf_Rights_NoneType : PySem.W.notFirst K A.C_Rights (.type "NoneType") = true
  kt_Rights_NoneType : PySem.W.kitOne K (.type "NoneType") (.ref A.C_Rights) = some false
  nf_Rights_bool : PySem.W.notFirst K A.C_Rights (.type "bool") = true
  kt_Rights_bool : PySem.W.kitOne K (.type "bool") (.ref A.C_Rights) = some false
  nf_Rights_int : PySem.W.notFirst K A.C_Rights (.type "int") = true
  kt_Rights_int : PySem.W.kitOne K (.type "int") (.ref A.C_Rights) = some false
  nf_Rights_str : PySem.W.notFirst K A.C_Rights (.type "str") = true
  kt_Rights_str : PySem.W.kitOne K (.type "str") (.ref A.C_Rights) = some false
  nf_Rights_list : PySem.W.notFirst K A.C_Rights (.type "list") = true
  kt_Rights_list : PySem.W.kitOne K (.type "list") (.ref A.C_Rights) = some false
  nf_Rights_tuple : PySem.W.notFirst K A.C_Rights (.type "tuple") = true
  kt_Rights_tuple : PySem.W.kitOne K (.type "tuple") (.ref A.C_Rights) = some false
  nf_Rights_dict : PySem.W.notFirst K A.C_Rights (.type "dict") = true
  kt_Rights_dict : PySem.W.kitOne K (.type "dict") (.ref A.C_Rights) = some false
  sb_Rights_NoneType : PySem.W.subIn K (.type "NoneType") (.ref A.C_Rights) = some false
  sb_Rights_bool : PySem.W.subIn K (.type "bool") (.ref A.C_Rights) = some false
  sb_Rights_int : PySem.W.subIn K (.type "int") (.ref A.C_Rights) = some false
  sb_Rights_str : PySem.W.subIn K (.type "str") (.ref A.C_Rights) = some false
  sb_Rights_list : PySem.W.subIn K (.type "list") (.ref A.C_Rights) = some false
  sb_Rights_tuple : PySem.W.subIn K (.type "tuple") (.ref A.C_Rights) = some false
  sb_Rights_dict : PySem.W.subIn K (.type "dict") (.ref A.C_Rights) = some false
  gC_AccessList : mg "AccessList" = some (.ref A.C_AccessList)
  c_AccessList : ∃ u, mg "AccessList" = some u ∧ RelV (.ref A.C_AccessList) u
  cl_AccessList : Cls K A.C_AccessList
  mk_AccessList : Mk K A.C_AccessList A.f_AccessList___init__
  cr_AccessList : ClX.CRead K A.C_AccessList (.type "type")
  in_AccessList : C8.InsC K A.C_AccessList
  sf_AccessList : PySem.W.selfFirst K A.C_AccessList = true
  cd_AccessList : ∃ cd, PySem.W.clsIn K A.C_AccessList = some cd ∧ cd.mro = [.ref A.C_AccessList, .type "object"]
  ne_AccessList : PySem.W.findIn K (.ref A.C_AccessList) "__ne__" = some (some (.builtin "object.__ne__"))
  na_AccessList__owner : NoAttr K A.C_AccessList "_owner"
  na_AccessList__group : NoAttr K A.C_AccessList "_group"
  na_AccessList__other : NoAttr K A.C_AccessList "_other"
  na_AccessList__users : NoAttr K A.C_AccessList "_users"
  na_AccessList__groups : NoAttr K A.C_AccessList "_groups"
  na_AccessList__mask : NoAttr K A.C_AccessList "_mask"
  nf_AccessList_NoneType : PySem.W.notFirst K A.C_AccessList (.type "NoneType") = true
  kt_AccessList_NoneType : PySem.W.kitOne K (.type "NoneType") (.ref A.C_AccessList) = some false
  nf_AccessList_bool : PySem.W.notFirst K A.C_AccessList (.type "bool") = true
  kt_AccessList_bool : PySem.W.kitOne K (.type "bool") (.ref A.C_AccessList) = some false
  nf_AccessList_int : PySem.W.notFirst K A.C_AccessList (.type "int") = true
  kt_AccessList_int : PySem.W.kitOne K (.type "int") (.ref A.C_AccessList) = some false
  nf_AccessList_str : PySem.W.notFirst K A.C_AccessList (.type "str") = true
  kt_AccessList_str : PySem.W.kitOne K (.type "str") (.ref A.C_AccessList) = some false
  nf_AccessList_list : PySem.W.notFirst K A.C_AccessList (.type "list") = true
  kt_AccessList_list : PySem.W.kitOne K (.type "list") (.ref A.C_AccessList) = some false
  nf_AccessList_tuple : PySem.W.notFirst K A.C_AccessList (.type "tuple") = true
  kt_AccessList_tuple : PySem.W.kitOne K (.type "tuple") (.ref A.C_AccessList) = some false
  nf_AccessList_dict : PySem.W.notFirst K A.C_AccessList (.type "dict") = true
  kt_AccessList_dict : PySem.W.kitOne K (.type "dict") (.ref A.C_AccessList) = some false
  sb_AccessList_NoneType : PySem.W.subIn K (.type "NoneType") (.ref A.C_AccessList) = some false
  sb_AccessList_bool : PySem.W.subIn K (.type "bool") (.ref A.C_AccessList) = some false
  sb_AccessList_int : PySem.W.subIn K (.type "int") (.ref A.C_AccessList) = some false
  sb_AccessList_str : PySem.W.subIn K (.type "str") (.ref A.C_AccessList) = some false
  sb_AccessList_list : PySem.W.subIn K (.type "list") (.ref A.C_AccessList) = some false
  sb_AccessList_tuple : PySem.W.subIn K (.type "tuple") (.ref A.C_AccessList) = some false
  sb_AccessList_dict : PySem.W.subIn K (.type "dict") (.ref A.C_AccessList) = some false
  gC_People : mg "People" = some (.ref A.C_People)
  c_People : ∃ u, mg "People" = some u ∧ RelV (.ref A.C_People) u
  cl_People : Cls K A.C_People
  mk_People : Mk K A.C_People A.f_People___init__
  cr_People : ClX.CRead K A.C_People (.type "type")
  in_People : C8.InsC K A.C_People
  sf_People : PySem.W.selfFirst K A.C_People = true
  cd_People : ∃ cd, PySem.W.clsIn K A.C_People = some cd ∧ cd.mro = [.ref A.C_People, .type "object"]
  ne_People : PySem.W.findIn K (.ref A.C_People) "__ne__" = some (some (.builtin "object.__ne__"))
  na_People__held : NoAttr K A.C_People "_held"
  na_People__groups : NoAttr K A.C_People "_groups"
  nf_People_NoneType : PySem.W.notFirst K A.C_People (.type "NoneType") = true
  kt_People_NoneType : PySem.W.kitOne K (.type "NoneType") (.ref A.C_People) = some false
  nf_People_bool : PySem.W.notFirst K A.C_People (.type "bool") = true
  kt_People_bool : PySem.W.kitOne K (.type "bool") (.ref A.C_People) = some false
  nf_People_int : PySem.W.notFirst K A.C_People (.type "int") = true
  kt_People_int : PySem.W.kitOne K (.type "int") (.ref A.C_People) = some false
  nf_People_str : PySem.W.notFirst K A.C_People (.type "str") = true
  kt_People_str : PySem.W.kitOne K (.type "str") (.ref A.C_People) = some false
  nf_People_list : PySem.W.notFirst K A.C_People (.type "list") = true
  kt_People_list : PySem.W.kitOne K (.type "list") (.ref A.C_People) = some false
  nf_People_tuple : PySem.W.notFirst K A.C_People (.type "tuple") = true
  kt_People_tuple : PySem.W.kitOne K (.type "tuple") (.ref A.C_People) = some false
  nf_People_dict : PySem.W.notFirst K A.C_People (.type "dict") = true
  kt_People_dict : PySem.W.kitOne K (.type "dict") (.ref A.C_People) = some false
  sb_People_NoneType : PySem.W.subIn K (.type "NoneType") (.ref A.C_People) = some false
  sb_People_bool : PySem.W.subIn K (.type "bool") (.ref A.C_People) = some false
  sb_People_int : PySem.W.subIn K (.type "int") (.ref A.C_People) = some false
  sb_People_str : PySem.W.subIn K (.type "str") (.ref A.C_People) = some false
  sb_People_list : PySem.W.subIn K (.type "list") (.ref A.C_People) = some false
  sb_People_tuple : PySem.W.subIn K (.type "tuple") (.ref A.C_People) = some false
  sb_People_dict : PySem.W.subIn K (.type "dict") (.ref A.C_People) = some false
  gC_Judge : mg "Judge" = some (.ref A.C_Judge)
  c_Judge : ∃ u, mg "Judge" = some u ∧ RelV (.ref A.C_Judge) u
  cl_Judge : Cls K A.C_Judge
  mk_Judge : Mk K A.C_Judge A.f_Judge___init__
  cr_Judge : ClX.CRead K A.C_Judge (.type "type")
  in_Judge : C8.InsC K A.C_Judge
  sf_Judge : PySem.W.selfFirst K A.C_Judge = true
  cd_Judge : ∃ cd, PySem.W.clsIn K A.C_Judge = some cd ∧ cd.mro = [.ref A.C_Judge, .type "object"]
  ne_Judge : PySem.W.findIn K (.ref A.C_Judge) "__ne__" = some (some (.builtin "object.__ne__"))
  na_Judge__people : NoAttr K A.C_Judge "_people"
  c_InvalidList : ∃ u, mg "InvalidList" = some u ∧ RelV (.ref A.C_InvalidList) u
  c_InvalidRights : ∃ u, mg "InvalidRights" = some u ∧ RelV (.ref A.C_InvalidRights) u
  c_InvalidPeople : ∃ u, mg "InvalidPeople" = some u ∧ RelV (.ref A.C_InvalidPeople) u
  c_UnknownUser : ∃ u, mg "UnknownUser" = some u ∧ RelV (.ref A.C_UnknownUser) u
  c_UnknownGroup : ∃ u, mg "UnknownGroup" = some u ∧ RelV (.ref A.C_UnknownGroup) u
  c_RightsError : ∃ u, mg "RightsError" = some u ∧ RelV (.ref A.C_RightsError) u
  c_MissingError : ∃ u, mg "MissingError" = some u ∧ RelV (.ref A.C_MissingError) u
  low_InvalidList : PySem.ExV.LowTxt K mg "InvalidList" "InvalidList.__init__" A.C_InvalidList A.I_InvalidList
  ec_InvalidList : ExcC K A.C_InvalidList
  low_InvalidRights : PySem.ExV.LowTxt K mg "InvalidRights" "InvalidRights.__init__" A.C_InvalidRights A.I_InvalidRights
  ec_InvalidRights : ExcC K A.C_InvalidRights
  low_InvalidPeople : PySem.ExV.LowTxt K mg "InvalidPeople" "InvalidPeople.__init__" A.C_InvalidPeople A.I_InvalidPeople
  ec_InvalidPeople : ExcC K A.C_InvalidPeople
  low_UnknownUser : PySem.ExN.NamTxt K mg "UnknownUser" "UnknownUser.__init__" A.C_UnknownUser A.I_UnknownUser
  ec_UnknownUser : ExcC K A.C_UnknownUser
  low_UnknownGroup : PySem.ExN.NamTxt K mg "UnknownGroup" "UnknownGroup.__init__" A.C_UnknownGroup A.I_UnknownGroup
  ec_UnknownGroup : ExcC K A.C_UnknownGroup
  kit_UnknownUser_MissingError : PySem.W.kitOne K (.ref A.C_UnknownUser) (.ref A.C_MissingError) = some true
  kit_UnknownUser_UnknownGroup : PySem.W.kitOne K (.ref A.C_UnknownUser) (.ref A.C_UnknownGroup) = some false
  kit_UnknownGroup_MissingError : PySem.W.kitOne K (.ref A.C_UnknownGroup) (.ref A.C_MissingError) = some true
  kit_UnknownGroup_RightsError : PySem.W.kitOne K (.ref A.C_UnknownGroup) (.ref A.C_RightsError) = some false
  kit_InvalidList_RightsError : PySem.W.kitOne K (.ref A.C_InvalidList) (.ref A.C_RightsError) = some true
  kit_InvalidList_InvalidRights : PySem.W.kitOne K (.ref A.C_InvalidList) (.ref A.C_InvalidRights) = some false
  kit_InvalidRights_RightsError : PySem.W.kitOne K (.ref A.C_InvalidRights) (.ref A.C_RightsError) = some true
  kit_InvalidRights_MissingError : PySem.W.kitOne K (.ref A.C_InvalidRights) (.ref A.C_MissingError) = some false
  exm_UnknownGroup_UnknownUser : PySem.W.exmOne K (.ref A.C_UnknownGroup) (.ref A.C_UnknownUser) = some false
  exm_InvalidList_UnknownUser : PySem.W.exmOne K (.ref A.C_InvalidList) (.ref A.C_UnknownUser) = some false
  exm_InvalidList_UnknownGroup : PySem.W.exmOne K (.ref A.C_InvalidList) (.ref A.C_UnknownGroup) = some false
  exm_InvalidRights_UnknownUser : PySem.W.exmOne K (.ref A.C_InvalidRights) (.ref A.C_UnknownUser) = some false
  exm_InvalidRights_UnknownGroup : PySem.W.exmOne K (.ref A.C_InvalidRights) (.ref A.C_UnknownGroup) = some false
  exm_InvalidRights_InvalidList : PySem.W.exmOne K (.ref A.C_InvalidRights) (.ref A.C_InvalidList) = some false
  c_LONGEST_NAME : ∃ u, mg "LONGEST_NAME" = some u ∧ RelV (.int 8) u
  c_LETTERS : ∃ u, mg "LETTERS" = some u ∧ RelV (.str "rwx") u
  c_ALL_DIGIT : ∃ u, mg "ALL_DIGIT" = some u ∧ RelV (.int 7) u
  c_DIGITS : ∃ u, mg "DIGITS" = some u ∧ RelV (.ref A.K_DIGITS) u
  kd_DIGITS : ∃ es n, KDict K w A.K_DIGITS es n
  ms_DIGITS : ∀ z : Str, z ∉ (["", "x", "w", "wx", "xw", "r", "rx", "xr", "rw", "wr", "rwx", "rxw", "wrx", "wxr", "xrw", "xwr"] : List Str) → PySem.W.nsIn K A.K_DIGITS z = some none
  at_DIGITS_ : KDct K w A.K_DIGITS "" (.int 0)
  at_DIGITS_x : KDct K w A.K_DIGITS "x" (.int 1)
  at_DIGITS_w : KDct K w A.K_DIGITS "w" (.int 2)
  at_DIGITS_wx : KDct K w A.K_DIGITS "wx" (.int 3)
  at_DIGITS_xw : KDct K w A.K_DIGITS "xw" (.int 3)
  at_DIGITS_r : KDct K w A.K_DIGITS "r" (.int 4)
  at_DIGITS_rx : KDct K w A.K_DIGITS "rx" (.int 5)
  at_DIGITS_xr : KDct K w A.K_DIGITS "xr" (.int 5)
  at_DIGITS_rw : KDct K w A.K_DIGITS "rw" (.int 6)
  at_DIGITS_wr : KDct K w A.K_DIGITS "wr" (.int 6)
  at_DIGITS_rwx : KDct K w A.K_DIGITS "rwx" (.int 7)
  at_DIGITS_rxw : KDct K w A.K_DIGITS "rxw" (.int 7)
  at_DIGITS_wrx : KDct K w A.K_DIGITS "wrx" (.int 7)
  at_DIGITS_wxr : KDct K w A.K_DIGITS "wxr" (.int 7)
  at_DIGITS_xrw : KDct K w A.K_DIGITS "xrw" (.int 7)
  at_DIGITS_xwr : KDct K w A.K_DIGITS "xwr" (.int 7)
  c_WORDS : ∃ u, mg "WORDS" = some u ∧ RelV (.ref A.K_WORDS) u
  tu_WORDS : ∃ o its n, List.lookup A.K_WORDS K = some o ∧ o.cls = .type "tuple" ∧ o.data = .seq its n ∧ its.size ≤ sizeLine ∧ Vals [.str "", .str "x", .str "w", .str "wx", .str "r", .str "rx", .str "rw", .str "rwx"] its.toList
  c_MOST_NAMED : ∃ u, mg "MOST_NAMED" = some u ∧ RelV (.int 6) u
  c_KIND_SIGNS : ∃ u, mg "KIND_SIGNS" = some u ∧ RelV (.ref A.K_KIND_SIGNS) u
  kd_KIND_SIGNS : ∃ es n, KDict K w A.K_KIND_SIGNS es n
  ms_KIND_SIGNS : ∀ z : Str, z ∉ (["owner", "user", "group", "named", "mask", "other"] : List Str) → PySem.W.nsIn K A.K_KIND_SIGNS z = some none
  at_KIND_SIGNS_owner : KDct K w A.K_KIND_SIGNS "owner" (.str "u")
  at_KIND_SIGNS_user : KDct K w A.K_KIND_SIGNS "user" (.str "u")
  at_KIND_SIGNS_group : KDct K w A.K_KIND_SIGNS "group" (.str "g")
  at_KIND_SIGNS_named : KDct K w A.K_KIND_SIGNS "named" (.str "g")
  at_KIND_SIGNS_mask : KDct K w A.K_KIND_SIGNS "mask" (.str "m")
  at_KIND_SIGNS_other : KDct K w A.K_KIND_SIGNS "other" (.str "o")
  c_MOST_USERS : ∃ u, mg "MOST_USERS" = some u ∧ RelV (.int 6) u
  c_MOST_GROUPS : ∃ u, mg "MOST_GROUPS" = some u ∧ RelV (.int 6) u
  b_all : mg "all" = none
  b_any : mg "any" = none
  b_bool : mg "bool" = none
  b_dict : mg "dict" = none
  b_int : mg "int" = none
  b_isinstance : mg "isinstance" = none
  b_len : mg "len" = none
  b_list : mg "list" = none
  b_max : mg "max" = none
  b_min : mg "min" = none
  b_range : mg "range" = none
  b_repr : mg "repr" = none
  b_set : mg "set" = none
  b_sorted : mg "sorted" = none
  b_str : mg "str" = none
  b_tuple : mg "tuple" = none


end K28
namespace K28
open PySem PySem.Spec PyProof.Rows L2 FR TL
open C8 (pss_cut pe_gc)
section
variable {P : Program} {w : World} {K : PySem.W.Frag} {mg : Str → Option Value} {base : Heap} {A : Ads}
set_option pp.maxSteps 120
/-- a user's name -/
def Us (s : Str) : Prop := Nm s ∧ s ≠ Str.ofString "root"
def Uss (xs : List Str) : Prop := ∀ x ∈ xs, Us x
theorem ok_is_name (T : Txt w K mg A) : FnOk P w K mg base CX0 1 A.f_is_name A.d_is_name ["value"] (fun vs H Q _ => ∃ s, vs = [.str s] ∧ Nm s ∧ Q (.bl true) H) := by
  refine T.F_is_name.ok sc_is_name (fun vs H Q E h => ?_) (fun cdv A_ outer s_ H vs Q E hr h => ?_)
  · obtain ⟨s, rfl, _⟩ := h
    rfl
  · obtain ⟨s, rfl, n, q⟩ := h
    refine ⟨_, (pss_cons (ps_if (PW.pt (pw_or (pt_not (pt_val (pe_callB call_isi (by rfl) T.b_isinstance (by decide +kernel) (pa_cons (pv 0) (pa_cons (pe_bltn (v := .ty "str") rfl T.b_str (by decide +kernel) rfl) pa_nil))))) (pw_or1 (pt_cmpR op_gt (pe_callB call_len_str (by rfl) T.b_len PySem.boot_len (pa_cons (pv 0) pa_nil)) (pe_gc rfl T.c_LONGEST_NAME) (nomark _))))) (pss_one (ps_ret pe_bl)) pss_nil)
  (pss_one (ps_ret (pe_and (pe_bm0 PySem.F.plainAttrs_str PySem.F.slot_str_isascii PySem.F.type_str_isascii mt_isascii (pv 0)) (pe_and (pe_bm0 PySem.F.plainAttrs_str PySem.F.slot_str_isalpha PySem.F.type_str_isalpha mt_isalpha (pv 0)) (pe_one (pe_bm0 PySem.F.plainAttrs_str PySem.F.slot_str_islower PySem.F.type_str_islower mt_islower (pv 0)))))))), ?_⟩
    have l1 := n.l1
    have hz : s.length ≤ sizeLine := size_le (by omega)
    have ea := isascii_asc n.asc
    have e1 := n.alpha
    have e2 := n.lower
    walk_at "rd"
    refine ifD (fun c => ?_) (fun c => ?_)
    · omega
    walk_at "rd"
    refine ifT ea ?_
    walk_at "rd"
    refine ifT e1 ?_
    walk_at "rd"
    show Q (.bl (Txt.islower s)) H
    rw [e2]
    exact q
theorem ok_is_user_name (T : Txt w K mg A) : FnOk P w K mg base CX0 2 A.f_is_user_name A.d_is_user_name ["value"] (fun vs H Q _ => ∃ s, vs = [.str s] ∧ Us s ∧ Q (.bl true) H) := by
  refine T.F_is_user_name.ok sc_is_user_name (fun vs H Q E h => ?_) (fun cdv A_ outer s_ H vs Q E hr h => ?_)
  · obtain ⟨s, rfl, _⟩ := h
    rfl
  · obtain ⟨s, rfl, n, q⟩ := h
    refine ⟨_, (pss_one (ps_ret (pe_and (pe_call (ok_is_name T) (hr.mono (by decide)) (by rfl) T.g_is_name T.F_is_name.kp T.B_is_name .nil pass0 (pa_cons (pv 0) pa_nil)) (pe_one (pe_cmpR op_ne (pv 0) pe_str (nomark _)))))), ?_⟩
    walk_at "rd"
    refine ⟨n.1, _, rfl, ?_⟩
    refine ifT rfl ?_
    walk_at "rd"
    show Q (.bl (!decide (V.str s = V.str (Str.ofString "root")))) H
    rw [decide_eq_false (fun h => n.2 (V.str.inj h))]
    exact q
/-- a list or a tuple of these texts -/
def Sq (H : Hp) (x : V) (xs : List Str) : Prop := ∃ p, x = .ref p ∧ (H p = some (.lst (xs.map V.str)) ∨ H p = some (.tup (xs.map V.str)))
theorem Sq.tx {H : Hp} {x : V} {xs : List Str} (h : Sq H x xs) : TxSq K H x xs := by
  obtain ⟨p, rfl, h | h⟩ := h
  · exact ⟨p, rfl, .inl (.inl (Rd.of h))⟩
  · exact ⟨p, rfl, .inr (.inl (Rd.of h))⟩
theorem Sq.keep {H H' : Hp} {x : V} {xs : List Str} (h : Sq H x xs) (k : Keep [] H H') : Sq H' x xs := by
  obtain ⟨p, rfl, h | h⟩ := h
  · exact ⟨p, rfl, .inl (k _ _ h (by simp))⟩
  · exact ⟨p, rfl, .inr (k _ _ h (by simp))⟩
def lt2 : HO := .tup [V.ty "list", V.ty "tuple"]
theorem ok_is_list (T : Txt w K mg A) : FnOk P w K mg base CX0 1 A.f_is_list A.d_is_list ["value"] (fun vs H Q _ => ∃ x xs, vs = [x] ∧ Sq H x xs ∧ ∀ H', Keep [] H H' → Q (.bl true) H') := by
  refine T.F_is_list.ok sc_is_list (fun vs H Q E h => ?_) (fun cdv A_ outer s_ H vs Q E hr h => ?_)
  · obtain ⟨x, xs, rfl, _⟩ := h
    rfl
  · obtain ⟨_, xs, rfl, ⟨p, rfl, hp⟩, q⟩ := h
    refine ⟨_, (pss_one (ps_ret (pe_callB call_isiT (by rfl) T.b_isinstance (by decide +kernel) (pa_cons (pv 0) (pa_cons (pe_tupN (pa_cons (pe_bltn (v := .ty "list") rfl T.b_list (by decide +kernel) rfl) (pa_cons (pe_bltn (v := .ty "tuple") rfl T.b_tuple (by decide +kernel) rfl) pa_nil))) pa_nil))))), ?_⟩
    walk_at "rd"
    refine NewO.mk fun tp H1 np kp ht => ?_
    have q1 := q H1 kp
    rcases hp with hp | hp
    · exact ⟨_, tp, _, _, _, true, rfl, ht, .cons (ClsV.ty _) (.cons (ClsV.ty _) .nil), TyX.base (TyOf.lst (kp _ _ hp (by simp))), kit2 (t := "list") (a := "list") (b := "tuple") (r1 := true) (r2 := false) (by decide +kernel) (by decide +kernel), q1⟩
    · exact ⟨_, tp, _, _, _, true, rfl, ht, .cons (ClsV.ty _) (.cons (ClsV.ty _) .nil), TyX.base (TyOf.tup (kp _ _ hp (by simp))), kit2 (t := "tuple") (a := "list") (b := "tuple") (r1 := false) (r2 := true) (by decide +kernel) (by decide +kernel), q1⟩
theorem ok_take (T : Txt w K mg A) : FnOk P w K mg base CX0 1 A.f_take A.d_take ["_law_bag_here", "_law_count"] spTake := by
  refine T.F_take.ok sc_take (fun vs H Q E h => ?_) (fun cdv A_ outer s H vs Q E hr h => ?_)
  · obtain ⟨b, k, n, x, y, z, rfl, _⟩ := h
    rfl
  · obtain ⟨b, k, n, x, y, z, rfl, hb, ok, hn, k0, k1, q⟩ := h
    have W := Ow.start1 hb
    have y0 := ok.y0; have y1 := ok.y1; have z0 := ok.z0; have z1 := ok.z1
    refine ⟨_, (pss_cons (ps_if (pt_cmpR op_gt (pe_ix ix_list (pv 0) pe_int (fun _ _ => rfl)) pe_int (nomark _)) (pss_cons (ps_set (i := 2) sc_take.nd rfl (.inl rfl) (pe_op op_mod (pe_ix ix_list (pv 0) pe_int (fun _ _ => rfl)) (pv 1)))
  (pss_cons (ps_asg (pe_op op_fdiv (pe_ix ix_list (pv 0) pe_int (fun _ _ => rfl)) (pv 1)) (pg_sub (pv 0) pe_int set_listN))
  (pss_one (ps_ret (pv 2))))) pss_nil)
  (pss_cons (ps_asg (pe_op op_add (pe_ix ix_list (pv 0) pe_int (fun _ _ => rfl)) pe_int) (pg_sub (pv 0) pe_int set_listN))
  (pss_cons (ps_set (i := 3) sc_take.nd rfl (.inl rfl) (pe_op op_mod (pe_op op_pow (pe_op op_add (pe_op op_add (pe_ix ix_list (pv 0) pe_int (fun _ _ => rfl)) (pe_op op_mul pe_int (pe_ix ix_list (pv 0) pe_int (fun _ _ => rfl)))) pe_int) pe_int) pe_int))
  (pss_cons (ps_set (i := 3) sc_take.nd rfl (.inl rfl) (pe_op op_mod (pe_op op_pow (pe_op op_add (pv 3) (pe_op op_mul pe_int (pe_ix ix_list (pv 0) pe_int (fun _ _ => rfl)))) pe_int) pe_int))
  (pss_one (ps_ret (pe_op op_mod (pe_op op_fdiv (pv 3) pe_int) (pv 1)))))))), ?_⟩
    walk_at "rd"
    refine ite2 (fun c => ?_) (fun c => ?_)
    · have c' : 0 < x := of_decide_eq_true c
      walk_at "rd"
      rename_i H1 kp hp W1
      exact q _ (x / k) y z H1 (Int.emod_nonneg _ (by omega)) (Int.emod_lt_of_pos _ k0) ⟨Int.ediv_nonneg ok.x0 (by omega), y0, y1, z0, by omega⟩ kp hp
    · walk_at "rd"
      rename_i H1 kp hp W1
      exact q _ x y (z + 1) H1 (Int.emod_nonneg _ (by omega)) (Int.emod_lt_of_pos _ k0) ⟨ok.x0, y0, y1, by omega, by omega⟩ kp hp
def spCell (K : PySem.W.Frag) : Sp := fun vs H Q _ => ∃ (a : Addr) (ns : List Int) (k : Int), vs = [.ref a, .int k] ∧ SqL K H a (ns.map V.int) ∧ 0 ≤ k ∧ k < 1000 ∧ ∀ n, Q (.int n) H
theorem ok_cell (T : Txt w K mg A) : FnOk P w K mg base CX0 1 A.f_cell A.d_cell ["_law_script", "_law_k"] (spCell K) := by
  refine T.F_cell.ok sc_cell (fun vs H Q E h => ?_) (fun cdv A_ outer s H vs Q E hr h => ?_)
  · obtain ⟨a, ns, k, rfl, _⟩ := h
    rfl
  · obtain ⟨a, ns, k, rfl, hS, h0, hk, q⟩ := h
    obtain ⟨j, rfl⟩ := Int.eq_ofNat_of_zero_le h0
    refine ⟨_, (pss_cons (ps_if (pt_cmpR op_lt (pv 1) (pe_callB call_len_seq (by rfl) T.b_len PySem.boot_len (pa_cons (pv 0) pa_nil)) (nomark _)) (pss_one (ps_ret (pe_ix ix_list (pv 0) (pv 1) (fun _ _ => rfl)))) pss_nil)
  (pss_one (ps_ret (pe_op op_add (pe_op op_mul pe_int (pv 1)) pe_int)))), ?_⟩
    walk_at "rd"
    refine ifD (fun c => ?_) (fun c => ?_)
    · have c2 : j < ns.length := by rw [List.length_map] at c; omega
      refine ⟨_, rfl, _, rfl, _, _, _, .int ns[j], rfl, rfl, hS, atI_nat (by rw [List.getElem?_map, List.getElem?_eq_getElem c2]; rfl), q _⟩
    · walk_at "rd"
      exact q _
def spBag : Sp := fun vs H Q _ => ∃ n : Int, vs = [.int n] ∧ ∀ x y z, BagOk 0 x y z → NewO (bagO x y z) Q H
theorem ok_bag (T : Txt w K mg A) : FnOk P w K mg base CX0 1 A.f_bag A.d_bag ["_law_number"] spBag := by
  refine T.F_bag.ok sc_bag (fun vs H Q E h => ?_) (fun cdv A_ outer s H vs Q E hr h => ?_)
  · obtain ⟨n, rfl, _⟩ := h
    rfl
  · obtain ⟨n, rfl, q⟩ := h
    have W : Ow H [] H [] := Ow.start0
    refine ⟨_, (pss_one (ps_ret (pe_lstS (pa_cons (pe_callB (call_max2 rfl) (by rfl) T.b_max (by decide +kernel) (pa_cons pe_int (pa_cons (pe_op op_sub (pv 0) (pe_op op_pow pe_int pe_int)) pa_nil))) (pa_cons (pe_op op_mod (pv 0) pe_int) (pa_cons pe_int pa_nil)))))), ?_⟩
    have q' := q (if n - 10 ^ 18 > 0 then n - 10 ^ 18 else 0) (n % 2147483629) 0 ⟨by split <;> omega, Int.emod_nonneg _ (by decide), Int.lt_trans (Int.emod_lt_of_pos _ (by decide)) (by decide), by omega, by omega⟩
    walk_at "rd"
    rename_i p H1 np sp kp hp W1
    exact q'.to p H1 np kp hp
end
end K28
namespace K28
open PySem PySem.Spec PyProof.Rows L2 FR TL
open C8 (pss_cut pe_gc)
theorem upd_again {H : Hp} {a : Addr} {o o' : HO} : upd (upd H a o) a o' = upd H a o' := by
  funext b
  by_cases c : b = a
  · subst c; rw [upd_same, upd_same]
  · rw [upd_ne c, upd_ne c, upd_ne c]
section
variable {P : Program} {w : World} {K : PySem.W.Frag} {mg : Str → Option Value} {base : Heap} {A : Ads}
set_option pp.maxSteps 120
theorem ok__are_users (T : Txt w K mg A) : FnOk P w K mg base CX0 3 A.f__are_users A.d__are_users ["value"] (fun vs H Q _ => ∃ a kvs ks, vs = [.ref a] ∧ H a = some (.dK kvs) ∧ kvs.map (·.1) = ks.map Sum.inr ∧ Uss ks ∧ 1 ≤ ks.length ∧ ks.length ≤ 6 ∧ ∀ H', Keep [] H H' → Q (.bl true) H') := by
  refine T.F__are_users.ok sc__are_users (fun vs H Q E h => ?_) (fun cdv A_ outer s_ H vs Q E hr h => ?_)
  · obtain ⟨a, kvs, ks, rfl, _⟩ := h
    rfl
  · obtain ⟨a, kvs, ks, rfl, ha, hk, us, l1, l2, q⟩ := h
    refine ⟨_, (pss_cons (ps_if (PW.pt (pw_or (pt_not (pt_val (pe_callB call_isi (by rfl) T.b_isinstance (by decide +kernel) (pa_cons (pv 0) (pa_cons (pe_bltn (v := .ty "dict") rfl T.b_dict (by decide +kernel) rfl) pa_nil))))) (pw_or1 (pt_not (pt_chain op_le op_le pe_int (pe_callB call_lenD (by rfl) T.b_len PySem.boot_len (pa_cons (pv 0) pa_nil)) (pe_gc rfl T.c_MOST_USERS)))))) (pss_one (ps_ret pe_bl)) pss_nil)
  (pss_one (ps_ret (pe_callB (cr_all rfl) (by rfl) T.b_all (by decide +kernel) (pa_cons (pe_lock (pe_lc (own := [("name", 1)]) (g := gName 1) rfl sc__are_users.nd (pi_keys (pv 0)) (blkOk_by (own := [("name", 1)]) (N := N__are_users) (sc := defScope s__are_users) (by decide +kernel)) (fun _ _ _ _ _ => pg_name (i := 1) sc__are_users.nd rfl (Or.inl rfl)) (fun _ _ _ _ _ => pts_nil) (fun _ _ _ _ _ => (pe_call (ok_is_user_name T) (hr.mono (by decide)) (by rfl) T.g_is_user_name T.F_is_user_name.kp T.B_is_user_name .nil pass0 (pa_cons (pv 1) pa_nil))))) pa_nil))))), ?_⟩
    have hl : kvs.length = ks.length := by simpa using congrArg List.length hk
    walk_at "rd"
    refine ⟨a, kvs, rfl, ha, ?_⟩
    refine ⟨_, _, rfl, rfl, _, rfl, ifT (decide_eq_true (by omega)) ?_⟩
    refine ⟨_, _, rfl, rfl, _, rfl, ?_⟩
    refine ifF (by rw [decide_eq_true (show (kvs.length : Int) ≤ 6 by omega)]; rfl) ?_
    walk_at "rd"
    refine ⟨a, _, ha, trivial, fun od => ?_⟩
    refine ⟨_, rfl, a, od, rfl, .inl ⟨kvs, upd_same, fun D hD => ?_⟩⟩
    have nD : D ≠ a := fun e => by rw [e, upd_same] at hD; cases hD
    refine lc_it walk_keys (fun i H1 => H1 = upd (upd H a (.frz od (.dK kvs))) D (.lst (List.replicate i (.bl true)))) rfl (fun i H1 _ e => ?_) (fun i x H1 H2 hi e y => ?_) (fun H1 e => ?_)
    · subst e
      rw [upd_ne (Ne.symm nD), upd_same]
    · subst e
      obtain ⟨rfl, k, v, hkv, rfl⟩ := y
      obtain ⟨s, hs, rfl⟩ : ∃ s, s ∈ ks ∧ k = Sum.inr s := by
        have : k ∈ ks.map Sum.inr := by rw [← hk]; exact List.mem_map.mpr ⟨(k, v), List.mem_of_getElem? hkv, rfl⟩
        obtain ⟨s, h1, h2⟩ := List.mem_map.mp this
        exact ⟨s, h1, h2.symm⟩
      walk_at "rd"
      have li : i < 7 := by omega
      refine ⟨us s hs, _, upd_same, size_le (by simp only [List.length_replicate]; omega), ?_⟩
      rw [upd_again, List.replicate_succ']
    · subst e
      refine ⟨by rw [upd_ne (Ne.symm nD), upd_same], ?_⟩
      refine ⟨D, List.replicate kvs.length true, rfl, .inl (Rd.of ?_), ?_⟩
      · rw [upd_ne nD, upd_same, List.map_replicate]
      · rw [show (List.replicate kvs.length true).all id = true by simp]
        refine q _ (keep_lock ha (keep_new ?_))
        exact hD
theorem ok__are_groups (T : Txt w K mg A) : FnOk P w K mg base CX0 3 A.f__are_groups A.d__are_groups ["value"] (fun vs H Q _ => ∃ x xs, vs = [x] ∧ Sq H x xs ∧ Uss xs ∧ xs.Nodup ∧ 1 ≤ xs.length ∧ xs.length ≤ 6 ∧ ∀ H', Keep [] H H' → Q (.bl true) H') := by
  refine T.F__are_groups.ok sc__are_groups (fun vs H Q E h => ?_) (fun cdv A_ outer s_ H vs Q E hr h => ?_)
  · obtain ⟨x, xs, rfl, _⟩ := h
    rfl
  · obtain ⟨x, xs, rfl, hx, us, nd, l1, l2, q⟩ := h
    refine ⟨_, (pss_cons (ps_if (PW.pt (pw_or (pt_not (pt_val (pe_call (ok_is_list T) (hr.mono (by decide)) (by rfl) T.g_is_list T.F_is_list.kp T.B_is_list .nil pass0 (pa_cons (pv 0) pa_nil)))) (pw_or1 (pt_not (pt_chain op_le op_le pe_int (pe_callB call_len_seq (by rfl) T.b_len PySem.boot_len (pa_cons (pv 0) pa_nil)) (pe_gc rfl T.c_MOST_GROUPS)))))) (pss_one (ps_ret pe_bl)) pss_nil)
  (pss_one (ps_ret (pe_and (pe_callB (cr_all rfl) (by rfl) T.b_all (by decide +kernel) (pa_cons (pe_lc (own := [("name", 1)]) (g := gName 1) rfl sc__are_groups.nd (pi_seq (pv 0)) (blkOk_by (own := [("name", 1)]) (N := N__are_groups) (sc := defScope s__are_groups) (by decide +kernel)) (fun _ _ _ _ _ => pg_name (i := 1) sc__are_groups.nd rfl (Or.inl rfl)) (fun _ _ _ _ _ => pts_nil) (fun _ _ _ _ _ => (pe_call (ok_is_user_name T) (hr.mono (by decide)) (by rfl) T.g_is_user_name T.F_is_user_name.kp T.B_is_user_name .nil pass0 (pa_cons (pv 1) pa_nil)))) pa_nil)) (pe_one (pe_cmpR op_eq (pe_callB call_len_seq (by rfl) T.b_len PySem.boot_len (pa_cons (pv 0) pa_nil)) (pe_lenSetS (by rfl) T.b_len (by rfl) T.b_set (pv 0)) (nomark _))))))), ?_⟩
    obtain ⟨p, rfl, hp⟩ := id hx
    refine ⟨_, rfl, ?_⟩
    refine ⟨_, xs, rfl, hx, fun H1 k1 => ?_⟩
    have hx1 := hx.keep k1
    have hsq : SqL K H1 p (xs.map V.str) ∨ SqT K H1 p (xs.map V.str) := by
      obtain ⟨p', e, h⟩ := hx1.tx (K := K)
      cases e
      exact h
    refine ⟨_, rfl, ?_⟩
    refine ifF rfl ?_
    refine ⟨_, rfl, p, _, rfl, hsq, ?_⟩
    rw [List.length_map]
    refine ⟨_, _, rfl, rfl, _, rfl, ifT (decide_eq_true (by omega)) ?_⟩
    refine ⟨_, _, rfl, rfl, _, rfl, ?_⟩
    refine ifF (by rw [decide_eq_true (show (xs.length : Int) ≤ 6 by omega)]; rfl) ?_
    walk_at "rd"
    have fin : ∀ H2, Keep [] H1 H2 → Q (.bl true) H2 := fun H2 k2 => q H2 (k1.trans k2)
    have one : (once [] xs).length = xs.length := by rw [once_free xs [] nd (fun _ _ h => absurd h List.not_mem_nil)]; simp
    have txs : ∀ H2, Keep [] H1 H2 → TxSq K H2 (.ref p) xs := fun H2 k2 => (hx1.keep k2).tx
    have sqs : ∀ H2, Keep [] H1 H2 → SqL K H2 p (xs.map V.str) ∨ SqT K H2 p (xs.map V.str) := fun H2 k2 => by
      obtain ⟨p', e, h⟩ := txs H2 k2
      cases e
      exact h
    rcases hp with hp | hp
    · refine .inl ⟨_, .inl (Rd.of (k1 _ _ hp (by simp))), fun D hD => ?_⟩
      refine lc_it (walk_list (xs := xs.map V.str)) (fun i H2 => H2 = upd H1 D (.lst (List.replicate i (.bl true)))) rfl (fun i H2 _ e => ?_) (fun i x H2 H3 hi e y => ?_) (fun H2 e => ?_)
      · subst e
        exact .inl (Rd.of ((keep_new hD) _ _ (k1 _ _ hp (by simp)) (by simp)))
      · subst e
        obtain ⟨rfl, hx⟩ := y
        obtain ⟨s, hs, rfl⟩ : ∃ s, s ∈ xs ∧ x = V.str s := by
          obtain ⟨s, h1, h2⟩ := List.mem_map.mp (List.mem_of_getElem? hx)
          exact ⟨s, h1, h2.symm⟩
        walk_at "rd"
        have li : i < 7 := by rw [List.length_map] at hi; omega
        refine ⟨us s hs, _, upd_same, size_le (by simp only [List.length_replicate]; omega), ?_⟩
        rw [upd_again, List.replicate_succ']
      · subst e
        rw [List.length_map]
        refine ⟨D, List.replicate xs.length true, rfl, .inl (Rd.of ?_), ?_⟩
        · rw [upd_same, List.map_replicate]
        rw [show (List.replicate xs.length true).all id = true by simp]
        have k2 : Keep [] H1 (upd H1 D (.lst (List.replicate xs.length (.bl true)))) := keep_new hD
        refine ⟨true, rfl, ifT rfl ?_⟩
        refine ⟨_, rfl, p, _, rfl, sqs _ k2, ?_⟩
        refine ⟨_, rfl, xs, txs _ k2, by omega, ?_⟩
        walk_at "rd"
        show Q (.bl (decide (V.int ((xs.map V.str).length : Nat) = V.int ((once [] xs).length : Nat)))) _
        rw [List.length_map, one, decide_eq_true rfl]
        exact fin _ k2
    · refine .inr ⟨_, .inl (Rd.of (k1 _ _ hp (by simp))), fun D hD => ?_⟩
      refine lc_it (walk_tup (xs := xs.map V.str)) (fun i H2 => H2 = upd H1 D (.lst (List.replicate i (.bl true)))) rfl (fun i H2 _ e => ?_) (fun i x H2 H3 hi e y => ?_) (fun H2 e => ?_)
      · subst e
        exact .inl (Rd.of ((keep_new hD) _ _ (k1 _ _ hp (by simp)) (by simp)))
      · subst e
        obtain ⟨rfl, hx⟩ := y
        obtain ⟨s, hs, rfl⟩ : ∃ s, s ∈ xs ∧ x = V.str s := by
          obtain ⟨s, h1, h2⟩ := List.mem_map.mp (List.mem_of_getElem? hx)
          exact ⟨s, h1, h2.symm⟩
        walk_at "rd"
        have li : i < 7 := by rw [List.length_map] at hi; omega
        refine ⟨us s hs, _, upd_same, size_le (by simp only [List.length_replicate]; omega), ?_⟩
        rw [upd_again, List.replicate_succ']
      · subst e
        rw [List.length_map]
        refine ⟨D, List.replicate xs.length true, rfl, .inl (Rd.of ?_), ?_⟩
        · rw [upd_same, List.map_replicate]
        rw [show (List.replicate xs.length true).all id = true by simp]
        have k2 : Keep [] H1 (upd H1 D (.lst (List.replicate xs.length (.bl true)))) := keep_new hD
        refine ⟨true, rfl, ifT rfl ?_⟩
        refine ⟨_, rfl, p, _, rfl, sqs _ k2, ?_⟩
        refine ⟨_, rfl, xs, txs _ k2, by omega, ?_⟩
        walk_at "rd"
        show Q (.bl (decide (V.int ((xs.map V.str).length : Nat) = V.int ((once [] xs).length : Nat)))) _
        rw [List.length_map, one, decide_eq_true rfl]
        exact fin _ k2
end
end K28
namespace K28
open PySem PySem.Spec PyProof.Rows L2 FR TL
/-! people as a list of users with their groups -/
abbrev Mp := List (Str × List Str)
def mget (m : Mp) (u : Str) : List Str := ((m.find? fun e => decide (e.1 = u)).map (·.2)).getD []
structure Mk (m : Mp) : Prop where
  nd : (m.map (·.1)).Nodup
  us : ∀ e ∈ m, Us e.1
  gs : ∀ e ∈ m, Uss e.2 ∧ e.2.Nodup ∧ 1 ≤ e.2.length ∧ e.2.length ≤ 6
  l1 : 1 ≤ m.length
  l6 : m.length ≤ 6
  few : ∃ G : List Str, G.length ≤ 6 ∧ ∀ e ∈ m, ∀ g ∈ e.2, g ∈ G
theorem mget_mem : ∀ {m : Mp} {e : Str × List Str}, (m.map (·.1)).Nodup → e ∈ m → mget m e.1 = e.2
  | [], _, _, h => absurd h List.not_mem_nil
  | x :: r, e, nd, h => by
    rw [List.map_cons, List.nodup_cons] at nd
    unfold mget
    by_cases c : x.1 = e.1
    · rw [List.find?_cons_of_pos (by simpa using c)]
      rcases List.mem_cons.mp h with rfl | h
      · rfl
      · exact absurd (List.mem_map.mpr ⟨e, h, c.symm⟩) nd.1
    · rw [List.find?_cons_of_neg (by simpa using c)]
      rcases List.mem_cons.mp h with rfl | h
      · exact absurd rfl c
      · exact mget_mem nd.2 h
theorem mget_map {m : Mp} (nd : (m.map (·.1)).Nodup) : (m.map (·.1)).map (fun u => (u, mget m u)) = m := by
  rw [List.map_map]
  conv => rhs; rw [← List.map_id m]
  refine List.map_congr_left fun e he => ?_
  show (e.1, mget m e.1) = e
  rw [mget_mem nd he]
theorem srt_perm' {xs zs : List Str} (q : xs.Perm zs) : srt xs = srt zs := by
  by_cases h : ∃ ys : List Str, ys.Perm xs ∧ sortedS ys = true
  · obtain ⟨ys, p, s⟩ := h
    exact srt_perm p s q
  · unfold srt
    rw [dif_neg h, dif_neg fun ⟨ys, p, s⟩ => h ⟨ys, p.trans q.symm, s⟩]
noncomputable def sm (m : Mp) : Mp := (srt (m.map (·.1))).map fun u => (u, mget m u)
def flatM (m : Mp) : List Str := (m.map (·.2)).flatten
noncomputable def gsOf (m : Mp) : List Str := srt (once [] (flatM m))
theorem sm_eq {m : Mp} {ys : List Str} (p : ys.Perm (m.map (·.1))) (h : sortedS ys = true) : sm m = ys.map fun u => (u, mget m u) := by
  unfold sm
  rw [← srt_eq p h]
theorem sm_perm {m : Mp} (nd : (m.map (·.1)).Nodup) {ys : List Str} (p : ys.Perm (m.map (·.1))) (h : sortedS ys = true) : (sm m).Perm m := by
  rw [sm_eq p h]
  have := p.map fun u => (u, mget m u)
  rwa [mget_map nd] at this
theorem sm_keys {m : Mp} {ys : List Str} (p : ys.Perm (m.map (·.1))) (h : sortedS ys = true) : (sm m).map (·.1) = ys := by
  rw [sm_eq p h, List.map_map]
  exact List.map_id _
theorem Mk.perm {m n : Mp} (h : Mk m) (p : n.Perm m) : Mk n where
  nd := (p.map _).nodup_iff.mpr h.nd
  us := fun e he => h.us e (p.mem_iff.mp he)
  gs := fun e he => h.gs e (p.mem_iff.mp he)
  l1 := by rw [p.length_eq]; exact h.l1
  l6 := by rw [p.length_eq]; exact h.l6
  few := by
    obtain ⟨G, g1, g2⟩ := h.few
    exact ⟨G, g1, fun e he => g2 e (p.mem_iff.mp he)⟩
theorem mem_flatM {m : Mp} {g : Str} : g ∈ flatM m ↔ ∃ e ∈ m, g ∈ e.2 := by
  unfold flatM
  rw [List.mem_flatten]
  constructor
  · rintro ⟨l, hl, hg⟩
    obtain ⟨e, he, rfl⟩ := List.mem_map.mp hl
    exact ⟨e, he, hg⟩
  · rintro ⟨e, he, hg⟩
    exact ⟨e.2, List.mem_map_of_mem he, hg⟩
theorem once_perm {a b : List Str} (h : ∀ x, x ∈ a ↔ x ∈ b) : (once [] a).Perm (once [] b) := by
  refine (List.perm_ext_iff_of_nodup (once_nodup a [] .nil) (once_nodup b [] .nil)).mpr fun x => ?_
  rw [once_mem, once_mem, h x]
theorem gs_perm {m n : Mp} (p : n.Perm m) : gsOf n = gsOf m := srt_perm' (once_perm fun x => by
  rw [mem_flatM, mem_flatM]
  exact ⟨fun ⟨e, he, hx⟩ => ⟨e, p.mem_iff.mp he, hx⟩, fun ⟨e, he, hx⟩ => ⟨e, p.mem_iff.mpr he, hx⟩⟩)
theorem mget_perm {m n : Mp} (nd : (m.map (·.1)).Nodup) (p : n.Perm m) (u : Str) : mget n u = mget m u := by
  by_cases h : u ∈ m.map (·.1)
  · obtain ⟨e, he, rfl⟩ := List.mem_map.mp h
    rw [mget_mem nd he, mget_mem ((p.map _).nodup_iff.mpr nd) (p.mem_iff.mpr he)]
  · have no : ∀ {k : Mp}, u ∉ k.map (·.1) → mget k u = [] := fun {k} hk => by
      unfold mget
      rw [List.find?_eq_none.mpr fun e he c => hk (List.mem_map.mpr ⟨e, he, of_decide_eq_true c⟩)]
      rfl
    rw [no h, no fun hn => h ((p.map _).mem_iff.mp hn)]
theorem sm_perm2 {m n : Mp} (nd : (m.map (·.1)).Nodup) (p : n.Perm m) : sm n = sm m := by
  unfold sm
  rw [srt_perm' (p.map _)]
  exact List.map_congr_left fun u _ => by rw [mget_perm nd p]
theorem once_few {m : Mp} (h : Mk m) : (once [] (flatM m)).length ≤ 6 := by
  obtain ⟨G, g1, g2⟩ := h.few
  have nd := once_nodup (flatM m) [] .nil
  have sub : ∀ x ∈ once [] (flatM m), x ∈ G := fun x hx => by
    rw [once_mem, mem_flatM] at hx
    obtain hx | ⟨e, he, hx⟩ := hx
    · exact absurd hx List.not_mem_nil
    · exact g2 e he x hx
  exact Nat.le_trans (nd.length_le_of_subset sub) g1
theorem flat_len {m : Mp} (h : Mk m) : (flatM m).length ≤ 36 := by
  unfold flatM
  rw [List.length_flatten]
  have : ((m.map (·.2)).map List.length).sum ≤ ((m.map (·.2)).map List.length).length * 6 := by
    have all : ∀ l ∈ (m.map (·.2)).map List.length, l ≤ 6 := fun l hl => by
      obtain ⟨x, hx, rfl⟩ := List.mem_map.mp hl
      obtain ⟨e, he, rfl⟩ := List.mem_map.mp hx
      exact (h.gs e he).2.2.2
    generalize (m.map (·.2)).map List.length = L at all
    induction L with
    | nil => simp
    | cons a r ih =>
      rw [List.sum_cons, List.length_cons, Nat.add_one_mul]
      have h1 := all a List.mem_cons_self
      have h2 := ih fun l hl => all l (List.mem_cons_of_mem _ hl)
      omega
  have l6 := h.l6
  simp only [List.length_map] at this
  omega
/-! how it stands in the heap -/
def RL (H : Hp) (x : V) (xs : List Str) : Prop := ∃ p, x = .ref p ∧ H p = some (.lst (xs.map V.str))
def RT (H : Hp) (x : V) (xs : List Str) : Prop := ∃ p, x = .ref p ∧ H p = some (.tup (xs.map V.str))
theorem RL.keep {H H' : Hp} {x : V} {xs : List Str} (h : RL H x xs) (k : Keep [] H H') : RL H' x xs := by
  obtain ⟨p, rfl, h⟩ := h
  exact ⟨p, rfl, k _ _ h (by simp)⟩
theorem RT.keep {H H' : Hp} {x : V} {xs : List Str} (h : RT H x xs) (k : Keep [] H H') : RT H' x xs := by
  obtain ⟨p, rfl, h⟩ := h
  exact ⟨p, rfl, k _ _ h (by simp)⟩
theorem RL.sq {H : Hp} {x : V} {xs : List Str} (h : RL H x xs) : Sq H x xs := h.imp fun _ ⟨e, h⟩ => ⟨e, .inl h⟩
theorem RT.sq {H : Hp} {x : V} {xs : List Str} (h : RT H x xs) : Sq H x xs := h.imp fun _ ⟨e, h⟩ => ⟨e, .inr h⟩
def DM (R : V → List Str → Prop) : List (L2.Key × V) → Mp → Prop := Paired fun kv e => kv.1 = Sum.inr e.1 ∧ R kv.2 e.2
theorem DM.imp {R S : V → List Str → Prop} {kvs : List (L2.Key × V)} {m : Mp} (h : DM R kvs m) (f : ∀ x xs, R x xs → S x xs) : DM S kvs m := Paired.mapP h fun _ _ ⟨e, r⟩ => ⟨e, f _ _ r⟩
theorem DM.len {R : V → List Str → Prop} {kvs : List (L2.Key × V)} {m : Mp} (h : DM R kvs m) : kvs.length = m.length := Paired.length h
theorem DM.keys {R : V → List Str → Prop} {kvs : List (L2.Key × V)} {m : Mp} (h : DM R kvs m) : kvs.map (·.1) = (m.map (·.1)).map Sum.inr := by
  unfold DM at h
  induction h with
  | nil => rfl
  | cons h t ih => rw [List.map_cons, List.map_cons, List.map_cons, ih, h.1]
theorem DM.val {R : V → List Str → Prop} {kvs : List (L2.Key × V)} {m : Mp} (h : DM R kvs m) {u : Str} (hu : u ∈ m.map (·.1)) : ∃ v, valV kvs (Sum.inr u) = some v ∧ R v (mget m u) := by
  unfold DM at h
  induction h with
  | nil => exact absurd hu List.not_mem_nil
  | @cons kv e a b h t ih =>
    by_cases c : e.1 = u
    · refine ⟨kv.2, valV_pos (by rw [h.1, c]), ?_⟩
      unfold mget
      rw [List.find?_cons_of_pos (by simpa using c)]
      exact h.2
    · rw [List.map_cons] at hu
      obtain ⟨v, h1, h2⟩ := ih ((List.mem_cons.mp hu).resolve_left fun z => c z.symm)
      refine ⟨v, by rw [valV_neg (by rw [h.1]; exact fun z => c (Sum.inr.inj z))]; exact h1, ?_⟩
      unfold mget
      rw [List.find?_cons_of_neg (by simpa using c)]
      exact h2
theorem DM.no {R : V → List Str → Prop} {kvs : List (L2.Key × V)} {m : Mp} (h : DM R kvs m) {u : Str} (hu : u ∉ m.map (·.1)) : valV kvs (Sum.inr u) = none := by
  unfold DM at h
  induction h with
  | nil => rfl
  | @cons kv e a b h t ih =>
    rw [List.map_cons, List.mem_cons, not_or] at hu
    rw [valV_neg (by rw [h.1]; exact fun z => hu.1 (Sum.inr.inj z).symm)]
    exact ih hu.2
theorem DM.get {R : V → List Str → Prop} {kvs : List (L2.Key × V)} {m : Mp} (h : DM R kvs m) {i : Nat} {k : L2.Key} {v : V} (hi : kvs[i]? = some (k, v)) : ∃ e, m[i]? = some e ∧ k = Sum.inr e.1 ∧ R v e.2 := by
  unfold DM at h
  induction h generalizing i with
  | nil => simp at hi
  | @cons kv e a b h t ih =>
    cases i with
    | zero =>
      obtain rfl : kv = (k, v) := by simpa using hi
      exact ⟨e, rfl, h⟩
    | succ i => exact ih (by simpa using hi)
theorem DM.snoc {R : V → List Str → Prop} {kvs : List (L2.Key × V)} {m : Mp} (h : DM R kvs m) {u : Str} {v : V} {xs : List Str} (r : R v xs) (hu : u ∉ m.map (·.1)) : putK kvs (Sum.inr u) v = kvs ++ [(Sum.inr u, v)] ∧ DM R (kvs ++ [(Sum.inr u, v)]) (m ++ [(u, xs)]) := by
  refine ⟨?_, ?_⟩
  · unfold putK
    rw [valV_any, h.no hu]
    rfl
  · clear hu
    unfold DM at h ⊢
    induction h with
    | nil => exact .cons ⟨rfl, r⟩ .nil
    | cons h t ih => exact .cons h ih
structure Ppl (C : Addr) (H : Hp) (p : Addr) (M : Mp) (gs : List Str) (d g dx : Addr) (kvs : List (L2.Key × V)) : Prop where
  ob : H p = some (.ins C dx [("_held", .ref d), ("_groups", .ref g)])
  hd : H d = some (.dK kvs)
  dm : DM (RT H) kvs M
  hg : H g = some (.lst (gs.map V.str))
  gd : Mk M
  gm : ∀ x, x ∈ gs ↔ ∃ e ∈ M, x ∈ e.2
  gl : gs.length ≤ 6
def Pp (C : Addr) (H : Hp) (p : Addr) (M : Mp) (gs : List Str) : Prop := ∃ d g dx kvs, Ppl C H p M gs d g dx kvs
theorem Ppl.keep {C : Addr} {H H' : Hp} {p : Addr} {M : Mp} {gs : List Str} {d g dx : Addr} {kvs : List (L2.Key × V)} (h : Ppl C H p M gs d g dx kvs) (k : Keep [] H H') : Ppl C H' p M gs d g dx kvs :=
  ⟨k _ _ h.ob (by simp), k _ _ h.hd (by simp), h.dm.imp fun _ _ r => r.keep k, k _ _ h.hg (by simp), h.gd, h.gm, h.gl⟩
theorem Pp.keep {C : Addr} {H H' : Hp} {p : Addr} {M : Mp} {gs : List Str} (h : Pp C H p M gs) (k : Keep [] H H') : Pp C H' p M gs := by
  obtain ⟨d, g, dx, kvs, h⟩ := h
  exact ⟨d, g, dx, kvs, h.keep k⟩
section
variable {P : Program} {w : World} {K : PySem.W.Frag} {mg : Str → Option Value} {base : Heap} {A : Ads}
set_option pp.maxSteps 120
theorem ok_People_groups (T : Txt w K mg A) : FnOk P w K mg base CX0 1 A.f_People_groups A.d_People_groups ["self"] (fun vs H Q _ => ∃ p M gs, vs = [.ref p] ∧ Pp A.C_People H p M gs ∧ NewO (.lst (gs.map V.str)) Q H) := by
  refine T.F_People_groups.ok sc_People_groups (fun vs H Q E h => ?_) (fun cdv A_ outer s_ H vs Q E hr h => ?_)
  · obtain ⟨p, M, gs, rfl, _⟩ := h
    rfl
  · obtain ⟨p, M, gs, rfl, ⟨d, g, dx, kvs, h⟩, q⟩ := h
    refine ⟨_, (pss_one (ps_ret (pe_callTy call_lofN (by rfl) T.b_list (by decide +kernel) (pa_cons (pe_fld (pv 0) rfl) pa_nil)))), ?_⟩
    refine ⟨_, rfl, p, _, dx, _, _, rfl, h.ob, T.cl_People, T.na_People__groups, rfl, ?_⟩
    exact ⟨g, _, rfl, .inl (.inl (Rd.of h.hg)), q⟩
/-- what stands on the left of `in`: a text, or anything that is none -/
def spHas (C : Addr) (K : PySem.W.Frag) : Sp := fun vs H Q _ => ∃ p M gs v, vs = [.ref p, v] ∧ Pp C H p M gs ∧ ((∃ s, v = .str s ∧ Q (.bl (decide (s ∈ M.map (·.1)))) H) ∨ ∃ t, TyX K H v (.type t) ∧ kitB t "str" = some false ∧ Q (.bl false) H)
theorem ok_People___contains__ (T : Txt w K mg A) : FnOk P w K mg base CX0 1 A.f_People___contains__ A.d_People___contains__ ["self", "value"] (spHas A.C_People K) := by
  refine T.F_People___contains__.ok sc_People___contains__ (fun vs H Q E h => ?_) (fun cdv A_ outer s_ H vs Q E hr h => ?_)
  · obtain ⟨p, M, gs, v, rfl, _⟩ := h
    rfl
  · obtain ⟨p, M, gs, v, rfl, ⟨d, g, dx, kvs, h⟩, q⟩ := h
    refine ⟨_, (pss_one (ps_ret (pe_and (pe_callB call_isi (by rfl) T.b_isinstance (by decide +kernel) (pa_cons (pv 1) (pa_cons (pe_bltn (v := .ty "str") rfl T.b_str (by decide +kernel) rfl) pa_nil))) (pe_one (pe_cmp (pc_din (hu_of hr) (pv 1) (pe_fld (pv 0) rfl))))))), ?_⟩
    rcases q with ⟨s, rfl, q⟩ | ⟨t, ty, k, q⟩
    · refine ⟨_, rfl, ?_⟩
      refine ⟨_, _, _, _, _, rfl, .ty _, TyX.base (.str s), kit_ty ki_str_str, ?_⟩
      refine ⟨true, rfl, ?_⟩
      rw [if_pos rfl]
      refine ⟨_, rfl, _, rfl, p, _, dx, _, _, rfl, h.ob, T.cl_People, T.na_People__held, rfl, ?_⟩
      refine ⟨d, _, rfl, .inl ⟨kvs, Sum.inr s, Rd.of h.hd, rfl, rfl⟩, ?_⟩
      have e : (valV kvs (Sum.inr s)).isSome = decide (s ∈ M.map (·.1)) := by
        by_cases c : s ∈ M.map (·.1)
        · obtain ⟨v, e, _⟩ := h.dm.val c
          rw [e, decide_eq_true c]; rfl
        · rw [h.dm.no c, decide_eq_false c]; rfl
      rw [e]
      exact q
    · refine ⟨_, rfl, ?_⟩
      refine ⟨_, _, _, _, _, rfl, .ty _, ty, kit_ty k, ?_⟩
      refine ⟨false, rfl, ?_⟩
      rw [if_neg Bool.false_ne_true]
      exact q
theorem ok_People_groups_of (T : Txt w K mg A) : FnOk P w K mg base CX0 2 A.f_People_groups_of A.d_People_groups_of ["self", "user"] (fun vs H Q _ => ∃ p M gs u, vs = [.ref p, .str u] ∧ Pp A.C_People H p M gs ∧ u ∈ M.map (·.1) ∧ NewO (.lst ((mget M u).map V.str)) Q H) := by
  refine T.F_People_groups_of.ok sc_People_groups_of (fun vs H Q E h => ?_) (fun cdv A_ outer s_ H vs Q E hr h => ?_)
  · obtain ⟨p, M, gs, u, rfl, _⟩ := h
    rfl
  · obtain ⟨p, M, gs, u, rfl, ⟨d, g, dx, kvs, h⟩, hu, q⟩ := h
    refine ⟨_, (pss_cons (ps_if (pt_cmpR (op_notInI T.me_People___contains__.at_ T.me_People___contains__.fn ((ok_People___contains__ T).raw T.B_People___contains__ .nil) (hr.mono (by decide)) pass0) (pv 1) (pv 0) rfl) (pss_one ps_never) pss_nil)
  (pss_one (ps_ret (pe_callTy call_lofN (by rfl) T.b_list (by decide +kernel) (pa_cons (pe_dget (hu_of hr) (pe_fld (pv 0) rfl) (pv 1) (fun _ _ => rfl)) pa_nil))))), ?_⟩
    refine ⟨_, rfl, _, rfl, p, dx, _, rfl, h.ob, ?_⟩
    refine ⟨p, M, gs, _, rfl, ⟨d, g, dx, kvs, h⟩, .inl ⟨u, rfl, ?_⟩⟩
    refine ⟨_, rfl, ?_⟩
    rw [decide_eq_true hu]
    refine ⟨_, rfl, ?_⟩
    refine ifF rfl ?_
    refine ⟨_, rfl, p, _, dx, _, _, rfl, h.ob, T.cl_People, T.na_People__held, rfl, _, rfl, ?_⟩
    obtain ⟨v, h1, q', rfl, h2⟩ := h.dm.val hu
    refine ⟨d, _, rfl, .inl ⟨kvs, Sum.inr u, Rd.of h.hd, rfl, h1.symm⟩, ?_⟩
    exact ⟨q', _, rfl, .inr (.inl (Rd.of h2)), q⟩
end
end K28
namespace K28
open PySem PySem.Spec PyProof.Rows L2 FR TL
open C8 (pss_cut pe_gc)
section
variable {P : Program} {w : World} {K : PySem.W.Frag} {mg : Str → Option Value} {base : Heap} {A : Ads}
set_option pp.maxSteps 120
theorem flat_take {M : Mp} {i : Nat} {e : Str × List Str} (h : M[i]? = some e) : flatM (M.take (i + 1)) = flatM (M.take i) ++ e.2 := by
  unfold flatM
  rw [List.take_add_one, h]
  simp
theorem once_app (l xs ys : List Str) : once l (xs ++ ys) = once (once l xs) ys := by
  unfold once
  rw [List.foldl_append]
theorem flat_take_len {M : Mp} (h : Mk M) (i : Nat) : (flatM (M.take i)).length ≤ 36 := by
  by_cases c : M.take i = []
  · rw [c]; simp [flatM]
  · refine flat_len ⟨h.nd.sublist ((List.take_sublist i M).map _), fun e he => h.us e (List.mem_of_mem_take he), fun e he => h.gs e (List.mem_of_mem_take he), List.length_pos_iff.mpr c, Nat.le_trans (List.length_take_le' i M) h.l6, ?_⟩
    obtain ⟨G, g1, g2⟩ := h.few
    exact ⟨G, g1, fun e he => g2 e (List.mem_of_mem_take he)⟩
theorem Keep.to1 {H H' : Hp} {p : Addr} (k : Keep [] H H') : Keep [p] H H' := fun b o e _ => k b o e (by simp)
theorem Sq.keep1 {H H' : Hp} {p : Addr} {o : HO} {x : V} {xs : List Str} (h : Sq H x xs) (hp : H p = some o) (no : (∀ ys, o ≠ .lst ys) ∧ ∀ ys, o ≠ .tup ys) (k : Keep [p] H H') : Sq H' x xs := by
  obtain ⟨q, rfl, h | h⟩ := h
  · exact ⟨q, rfl, .inl (k _ _ h (by simpa using ne_of h hp (fun z => no.1 _ z.symm)))⟩
  · exact ⟨q, rfl, .inr (k _ _ h (by simpa using ne_of h hp (fun z => no.2 _ z.symm)))⟩
def spInit (C : Addr) : Sp := fun vs H Q _ => ∃ p dx a kvs m, vs = [.ref p, .ref a] ∧ H p = some (.ins C dx []) ∧ H a = some (.dK kvs) ∧ DM (Sq H) kvs m ∧ Mk m ∧ ∀ H' d g dx' ks, Keep [p] H H' → (sm m).Perm m → Ppl C H' p (sm m) (gsOf m) d g dx' ks → H d = none → H g = none → Q .non H'
theorem keep_free {H H' : Hp} {D : Addr} {o : HO} (k : Keep [] H H') (h : H D = none) : Keep [] H (upd H' D o) := fun b u e hb => by
  rw [upd_ne (ne_of_none e h)]
  exact k b u e hb
theorem RT.put {H : Hp} {D : Addr} {o o' : HO} {x : V} {xs : List Str} (r : RT H x xs) (h : H D = some o) (n : ∀ ys, o ≠ .tup ys) : RT (upd H D o') x xs := by
  obtain ⟨q, rfl, hq⟩ := r
  exact ⟨q, rfl, by rw [upd_ne (ne_of hq h fun z => n _ z.symm)]; exact hq⟩
theorem take_none {α : Type} {L : List α} {i : Nat} {x : α} (nd : L.Nodup) (h : L[i]? = some x) : x ∉ L.take i := fun hx => by
  obtain ⟨j, hj, e⟩ := List.mem_iff_getElem.mp hx
  rw [List.length_take] at hj
  rw [List.getElem_take] at e
  obtain ⟨hi, e2⟩ := List.getElem?_eq_some_iff.mp h
  have := (List.getElem?_inj hi nd).mp (h.trans (List.getElem?_eq_some_iff.mpr ⟨by omega, e⟩).symm)
  omega
theorem ok_People___init__ (T : Txt w K mg A) : FnOk P w K mg base CX0 4 A.f_People___init__ A.d_People___init__ ["self", "members"] (spInit A.C_People) := by
  refine T.F_People___init__.ok sc_People___init__ (fun vs H Q E h => ?_) (fun cdv A_ outer s_ H vs Q E hr h => ?_)
  · obtain ⟨p, dx, a, kvs, m, rfl, _⟩ := h
    rfl
  · obtain ⟨p, dx, a, kvs, m, rfl, hp, ha, dm, gd, q⟩ := h
    refine ⟨_, (pss_cons (ps_if (pt_not (pt_val (pe_call (ok__are_users T) (hr.mono (by decide)) (by rfl) T.g__are_users T.F__are_users.kp T.B__are_users .nil pass0 (pa_cons (pv 1) pa_nil)))) (pss_one ps_never) pss_nil)
  (pss_cons (ps_for PassesOwn.never rfl (pi_list (pe_callB (call_sortedD rfl) (by rfl) T.b_sorted (by decide +kernel) (pa_cons (pv 1) pa_nil))) (pg_name (i := 2) sc_People___init__.nd rfl (.inl rfl)) (pss_one (ps_if (pt_not (pt_val (pe_call (ok__are_groups T) (hr.mono (by decide)) (by rfl) T.g__are_groups T.F__are_groups.kp T.B__are_groups .nil pass0 (pa_cons (pe_dget (hu_of hr) (pv 1) (pv 2) (fun _ _ => rfl)) pa_nil)))) (pss_one ps_never) pss_nil)))
  (pss_cons (ps_fld (pv 0) (pe_dc (own := [("user", 2)]) (g := gName 2) rfl sc_People___init__.nd (pi_list (pe_callB (call_sortedD rfl) (by rfl) T.b_sorted (by decide +kernel) (pa_cons (pv 1) pa_nil))) (blkOk_by (own := [("user", 2)]) (N := N_People___init__) (sc := defScope s_People___init__) (by decide +kernel)) (fun _ _ _ _ _ => pg_name (i := 2) sc_People___init__.nd rfl (Or.inl rfl)) (fun _ _ _ _ _ => pts_nil) (fun _ _ _ _ _ => (pv 2)) (fun _ _ _ _ _ => (pe_callTy (call_tuple_ofK (K := K) rfl) (by rfl) T.b_tuple (by decide +kernel) (pa_cons (pe_dget (hu_of hr) (pv 1) (pv 2) (fun _ _ => rfl)) pa_nil)))) rfl)
  (pss_cons (ps_fld (pv 0) (pe_callB (cr_sortSet rfl) (by rfl) T.b_sorted (by decide +kernel) (pa_cons (pe_lock (pe_sc2 (own := [("user", 2), ("group", 3)]) (vs1 := [3]) (g := gName 2) (g1 := gName 3) rfl sc_People___init__.nd (pi_keys (pe_fld (pv 0) rfl)) (blkOk_by (own := [("user", 2), ("group", 3)]) (N := N_People___init__) (sc := defScope s_People___init__) (by decide +kernel)) (by decide) (fun _ _ _ _ _ => pg_name (i := 2) sc_People___init__.nd rfl (Or.inl rfl)) (fun _ _ _ _ _ => (pi_tupK (K := K) rfl (pe_dget (hu_of hr) (pe_fldK (K := K) rfl (pv 0) (by rfl)) (pv 2) (fun _ _ => rfl)))) (fun _ _ _ _ _ => pg_name (i := 3) sc_People___init__.nd rfl (Or.inl rfl)) (fun _ _ _ _ _ => (pv 3)))) pa_nil)) rfl)
  (pss_one (ps_if (pt_cmpR op_gt (pe_callB call_len_seq (by rfl) T.b_len PySem.boot_len (pa_cons (pe_fld (pv 0) rfl) pa_nil)) (pe_gc rfl T.c_MOST_GROUPS) (nomark _)) (pss_one ps_never) pss_nil)))))), ?_⟩
    have ks := dm.keys
    refine ⟨_, rfl, a, kvs, m.map (·.1), rfl, ha, ks, fun s hs => ?_, by rw [List.length_map]; exact gd.l1, by rw [List.length_map]; exact gd.l6, fun H1 k1 => ?_⟩
    · obtain ⟨e, he, rfl⟩ := List.mem_map.mp hs
      exact gd.us e he
    refine ⟨_, rfl, ?_⟩
    refine ifF rfl ?_
    refine ⟨_, rfl, a, kvs, m.map (·.1), rfl, .inl (k1 _ _ ha (by simp)), ks, by rw [List.length_map]; have := gd.l6; omega, fun ys l py sy nl => ?_⟩
    refine ⟨l, rfl, ⟨_, .inl (.inl upd_same)⟩, ?_⟩
    have k2 : Keep [] H (upd H1 l (.lst (ys.map V.str))) := k1.trans (keep_new nl)
    have kl : ∀ H', Keep [] (upd H1 l (.lst (ys.map V.str))) H' → SqL K H' l (ys.map V.str) := fun H' k => .inl (.inl (k _ _ upd_same (by simp)))
    have ymem : ∀ y ∈ ys, y ∈ m.map (·.1) := fun y hy => py.mem_iff.mp hy
    refine for_li (xs := ys.map V.str) (fun pre σ H' => (∃ y2 y3, σ = [some (.ref p), some (.ref a), y2, y3]) ∧ Keep [] (upd H1 l (.lst (ys.map V.str))) H') ⟨⟨none, none, rfl⟩, Keep.refl⟩ (fun pre post σ H' _ h => kl H' h.2) ?_ ?_
    · rintro pre x post σ H' ex ⟨⟨y2, y3, rfl⟩, k3⟩
      obtain ⟨u, hu, rfl⟩ : ∃ u, u ∈ ys ∧ x = V.str u := by
        have : x ∈ ys.map V.str := by rw [ex]; simp
        obtain ⟨u, h1, h2⟩ := List.mem_map.mp this
        exact ⟨u, h1, h2.symm⟩
      obtain ⟨v, hv, hq⟩ := dm.val (ymem u hu)
      obtain ⟨e, he, eu⟩ := List.mem_map.mp (ymem u hu)
      subst eu
      rw [mget_mem gd.nd he] at hq
      have g := gd.gs e he
      have k4 := k2.trans k3
      refine ⟨_, rfl, _, rfl, a, v, rfl, .inl ⟨kvs, Sum.inr e.1, .inl (k4 _ _ ha (by simp)), rfl, hv.symm⟩, ?_⟩
      refine ⟨v, e.2, rfl, hq.keep k4, g.1, g.2.1, g.2.2.1, g.2.2.2, fun H5 k5 => ?_⟩
      refine ⟨_, rfl, ?_⟩
      refine ifF rfl ?_
      exact ⟨⟨_, _, rfl⟩, k3.trans k5⟩
    · rintro σ H2 ⟨⟨y2, y3, rfl⟩, k3⟩
      have k4 := k2.trans k3
      clear k2 k3 kl k1
      refine ⟨_, rfl, a, kvs, m.map (·.1), rfl, .inl (k4 _ _ ha (by simp)), ks, by rw [List.length_map]; have := gd.l6; omega, fun ys2 l2 py2 sy2 nl2 => ?_⟩
      have e2 : ys2 = ys := by rw [srt_eq py2 sy2, srt_eq py sy]
      subst e2
      clear py2 sy2
      have k5 : Keep [] H (upd H2 l2 (.lst (ys2.map V.str))) := k4.trans (keep_new nl2)
      have eM := sm_eq py sy
      have pM := sm_perm gd.nd py sy
      have gM := gd.perm pM
      have kM := sm_keys py sy
      have ynd : ys2.Nodup := py.nodup_iff.mpr gd.nd
      have h2l : (upd H2 l2 (.lst (ys2.map V.str))) l2 = some (.lst (ys2.map V.str)) := upd_same
      clear k4 nl2
      generalize upd H2 l2 (.lst (ys2.map V.str)) = H3 at k5 h2l ⊢
      refine ⟨l2, rfl, ⟨_, .inl (.inl h2l)⟩, fun D hD => ?_⟩
      have hD0 := hD
      have kD0 := k5
      refine dc_it (walk_list (xs := ys2.map V.str)) (fun i H' => ∃ ks', H' D = some (.dK ks') ∧ Keep [] H3 H' ∧ DM (RT H') ks' ((sm m).take i)) ⟨[], upd_same, keep_new hD, .nil⟩ (fun i H' _ h => ?_) (fun i x H' H4 hi h y => ?_) (fun H' h => ?_)
      · obtain ⟨_, _, k, _⟩ := h
        exact .inl (.inl (k _ _ h2l (by simp)))
      · obtain ⟨ks', hd', k6, dm'⟩ := h
        obtain ⟨rfl, hx⟩ := y
        rw [List.getElem?_map] at hx
        obtain ⟨u, hu, rfl⟩ := Option.map_eq_some_iff.mp hx
        have hum := ymem u (List.mem_of_getElem? hu)
        obtain ⟨v, hv, hq⟩ := dm.val hum
        have hMi : (sm m)[i]? = some (u, mget m u) := by rw [eM, List.getElem?_map, hu]; rfl
        have k7 := k5.trans k6
        have nin : u ∉ ((sm m).take i).map (·.1) := by
          rw [List.map_take, kM]
          exact take_none ynd hu
        have l6 : ks'.length < sizeLine := by
          refine size_ok ?_
          rw [dm'.len, List.length_take]
          have := gM.l6
          omega
        have tk : (sm m).take (i + 1) = (sm m).take i ++ [(u, mget m u)] := by rw [List.take_add_one, hMi]; rfl
        walk_at "rd"
        refine ⟨a, v, rfl, .inl ⟨kvs, Sum.inr u, .inl (k7 _ _ ha (by simp)), rfl, hv.symm⟩, ?_⟩
        obtain ⟨q', rfl, hq'⟩ := hq.keep k7
        rcases hq' with hq' | hq'
        · refine ⟨q', _, rfl, .inl ⟨.inl (.inl hq'), fun l hl => ?_⟩⟩
          have nl : l ≠ D := fun e => by rw [e, hd'] at hl; cases hl
          have hd2 : (upd H4 l (.tup ((mget m u).map V.str))) D = some (.dK ks') := by rw [upd_ne (Ne.symm nl)]; exact hd'
          obtain ⟨s1, s2⟩ := (dm'.imp fun _ _ r => (r.keep (keep_new (o := .tup ((mget m u).map V.str)) hl)).put (o' := .dK (ks' ++ [(Sum.inr u, .ref l)])) hd2 (fun _ z => by cases z)).snoc (v := .ref l) (xs := mget m u) ⟨l, rfl, by rw [upd_ne nl, upd_same]⟩ nin
          refine ⟨ks', Sum.inr u, rfl, hd2, l6, ks' ++ [(Sum.inr u, .ref l)], ?_, ?_, ?_⟩
          · rw [s1, upd_same]
          · exact keep_free (k6.trans (keep_new hl)) hD
          · rw [s1, tk]
            exact s2
        · refine ⟨q', _, rfl, .inr ⟨.inl (.inl hq'), ?_⟩⟩
          have nq : q' ≠ D := ne_of hq' hd' (fun z => by cases z)
          obtain ⟨s1, s2⟩ := (dm'.imp fun _ _ r => r.put (o' := .dK (ks' ++ [(Sum.inr u, .ref q')])) hd' (fun _ z => by cases z)).snoc (v := .ref q') (xs := mget m u) ⟨q', rfl, by rw [upd_ne nq]; exact hq'⟩ nin
          refine ⟨ks', Sum.inr u, rfl, hd', l6, ks' ++ [(Sum.inr u, .ref q')], ?_, ?_, ?_⟩
          · rw [s1, upd_same]
          · exact keep_free k6 hD
          · rw [s1, tk]
            exact s2
      · obtain ⟨ks', hd', k6, dm'⟩ := h
        rw [List.length_map] at dm'
        have lM : ys2.length = (sm m).length := by rw [eM, List.length_map]
        rw [lM, List.take_length] at dm'
        have k7 := k5.trans k6
        refine ⟨_, rfl, p, _, dx, _, rfl, k7 _ _ hp (by simp), T.cl_People, T.na_People__held, by decide, ?_⟩
        have np : p ≠ D := ne_of (k7 _ _ hp (by simp)) hd' (fun z => by cases z)
        have dm2 := dm'.imp fun _ _ r => r.put (o' := .ins A.C_People dx (putF (Str.ofString "_held") (.ref D) [])) (k7 _ _ hp (by simp)) (fun _ z => by cases z)
        have hd2 : upd H' p (.ins A.C_People dx (putF (Str.ofString "_held") (.ref D) [])) D = some (.dK ks') := by rw [upd_ne (Ne.symm np)]; exact hd'
        have hp2 : upd H' p (.ins A.C_People dx (putF (Str.ofString "_held") (.ref D) [])) p = some (.ins A.C_People dx [("_held", .ref D)]) := upd_same
        have k8 : Keep [p] H (upd H' p (.ins A.C_People dx (putF (Str.ofString "_held") (.ref D) []))) := fun b o hb nb => by
          rw [upd_ne (by simpa using nb)]
          exact k7 _ _ hb (by simp)
        generalize upd H' p (.ins A.C_People dx (putF (Str.ofString "_held") (.ref D) [])) = H5 at dm2 hd2 hp2 k8 ⊢
        clear dm' hd' k7 k6 hD h2l k5
        refine ⟨D, _, hd2, trivial, fun od => ?_⟩
        refine ⟨_, rfl, p, _, dx, _, _, rfl, (by rw [upd_ne np]; exact hp2), T.cl_People, T.na_People__held, rfl, D, od, rfl, .inl ⟨ks', upd_same, fun S hS => ?_⟩⟩
        have nSD : S ≠ D := fun e => by rw [e, upd_same] at hS; cases hS
        have nSp : p ≠ S := fun e => by rw [← e, upd_ne np, hp2] at hS; cases hS
        refine ⟨_, ⟨_, rfl, Nat.zero_le _, ?h0⟩, round_it walk_keys (fun i H' => H' = upd (upd H5 D (.frz od (.dK ks'))) S (SetS P w S (once [] (flatM ((sm m).take i))))) (fun i H' _ e => ?hG) (fun i x H6 H7 hi e y => ?hs) (fun H6 e => ?hd)⟩
        case h0 => rfl
        case hG =>
          subst e
          rw [upd_ne (Ne.symm nSD), upd_same]
        case hs =>
          subst e
          obtain ⟨rfl, k, v, hkv, rfl⟩ := y
          obtain ⟨e, he, rfl, q', rfl, h2⟩ := dm2.get hkv
          have hem := List.mem_of_getElem? he
          obtain ⟨v', hv, q', rfl, h2⟩ := dm2.val (List.mem_map_of_mem hem)
          rw [mget_mem gM.nd hem] at h2
          have nq : q' ≠ D := ne_of h2 hd2 (fun z => by cases z)
          have nqS : q' ≠ S := fun e => by rw [← e, upd_ne nq, h2] at hS; cases hS
          refine ⟨rfl, ?_⟩
          refine ⟨_, rfl, p, _, dx, _, _, rfl, (by rw [upd_ne nSp, upd_ne np]; exact hp2), T.cl_People, T.na_People__held, rfl, _, rfl, ?_⟩
          refine ⟨D, _, rfl, .inl ⟨ks', Sum.inr e.1, .inr ⟨od, by rw [upd_ne (Ne.symm nSD), upd_same]⟩, rfl, hv.symm⟩, ?_⟩
          have hq : ∀ o, SqT K (upd (upd H5 D (.frz od (.dK ks'))) S o) q' (e.2.map V.str) := fun o => .inl (.inl (by rw [upd_ne nqS, upd_ne nq]; exact h2))
          refine ⟨q', rfl, ⟨_, hq _⟩, ?_⟩
          refine ⟨_, ⟨_, rfl, Nat.zero_le _, ?h1⟩, round_it (walk_tup (xs := e.2.map V.str)) (fun j H' => H' = upd (upd H5 D (.frz od (.dK ks'))) S (SetS P w S (once [] (flatM ((sm m).take i) ++ e.2.take j)))) (fun j H' _ e => ?hG1) (fun j x H6 H7 hj e y => ?hs1) (fun H6 e => ?hd1)⟩
          case h1 =>
            show _ = upd _ S (SetS P w S (once [] (_ ++ [])))
            rw [List.append_nil]
          case hG1 =>
            subst e
            exact hq _
          case hs1 =>
            subst e
            obtain ⟨rfl, hx⟩ := y
            rw [List.getElem?_map] at hx
            obtain ⟨t, ht, rfl⟩ := Option.map_eq_some_iff.mp hx
            refine ⟨rfl, _, rfl, t, _, rfl, upd_same, ?_, ?_⟩
            · have h1 := once_len (flatM ((sm m).take i) ++ e.2.take j) []
              have h2 := flat_take_len gM i
              have h3 := (gM.gs e hem).2.2.2
              rw [List.length_append, List.length_take] at h1
              simp only [List.length_nil] at h1
              refine Nat.lt_of_le_of_lt (show _ ≤ 100 by omega) (by decide)
            · rw [upd_again, ← once_app, List.append_assoc, List.take_add_one, ht]
              rfl
          case hd1 =>
            subst e
            rw [List.length_map, List.take_length, ← flat_take he]
        case hd =>
          subst e
          refine ⟨by rw [upd_ne (Ne.symm nSD), upd_same], ?_⟩
          have lks : ks'.length = (sm m).length := dm2.len
          rw [lks, List.take_length]
          have k9 : Keep [] H5 (upd (upd (upd H5 D (.frz od (.dK ks'))) S (SetS P w S (once [] (flatM (sm m))))) D (.dK ks')) := keep_lock hd2 (keep_new hS)
          have hS9 : (upd (upd (upd H5 D (.frz od (.dK ks'))) S (SetS P w S (once [] (flatM (sm m))))) D (.dK ks')) S = some (SetS P w S (once [] (flatM (sm m)))) := by rw [upd_ne nSD, upd_same]
          generalize upd (upd (upd H5 D (.frz od (.dK ks'))) S (SetS P w S (once [] (flatM (sm m))))) D (.dK ks') = H9 at k9 hS9 ⊢
          have few := once_few gM
          refine ⟨S, _, rfl, hS9, by omega, fun gs G pg sg nG => ?_⟩
          have egs : gs = gsOf m := by rw [srt_eq pg sg]; exact gs_perm pM
          have gmem : ∀ x, x ∈ gs ↔ ∃ e ∈ sm m, x ∈ e.2 := fun x => by rw [pg.mem_iff, once_mem, mem_flatM]; simp
          have gl : gs.length ≤ 6 := by rw [pg.length_eq]; exact few
          have hp9 := k9 _ _ hp2 (by simp)
          have hd9 := k9 _ _ hd2 (by simp)
          have nGp : p ≠ G := fun e => by rw [← e, hp9] at nG; cases nG
          have nGD : D ≠ G := fun e => by rw [← e, hd9] at nG; cases nG
          refine ⟨_, rfl, p, _, dx, _, rfl, (by rw [upd_ne nGp]; exact hp9), T.cl_People, T.na_People__groups, (by show 1 < 1000; decide), ?_⟩
          have hp10 : (upd (upd H9 G (.lst (gs.map V.str))) p (.ins A.C_People dx (putF (Str.ofString "_groups") (.ref G) [("_held", .ref D)]))) p = some (.ins A.C_People dx [("_held", .ref D), ("_groups", .ref G)]) := upd_same
          have hG10 : (upd (upd H9 G (.lst (gs.map V.str))) p (.ins A.C_People dx (putF (Str.ofString "_groups") (.ref G) [("_held", .ref D)]))) G = some (.lst (gs.map V.str)) := by rw [upd_ne (Ne.symm nGp), upd_same]
          have hD10 : (upd (upd H9 G (.lst (gs.map V.str))) p (.ins A.C_People dx (putF (Str.ofString "_groups") (.ref G) [("_held", .ref D)]))) D = some (.dK ks') := by rw [upd_ne (Ne.symm np), upd_ne nGD]; exact hd9
          have dm10 : DM (RT (upd (upd H9 G (.lst (gs.map V.str))) p (.ins A.C_People dx (putF (Str.ofString "_groups") (.ref G) [("_held", .ref D)])))) ks' (sm m) :=
            dm2.imp fun _ _ r => ((r.keep k9).keep (keep_new nG)).put (by rw [upd_ne nGp]; exact hp9) (fun _ z => by cases z)
          have k10 : Keep [p] H (upd (upd H9 G (.lst (gs.map V.str))) p (.ins A.C_People dx (putF (Str.ofString "_groups") (.ref G) [("_held", .ref D)]))) := fun b o hb nb => by
            rw [upd_ne (by simpa using nb)]
            exact (k9.trans (keep_new nG)) _ _ (k8 _ _ hb nb) (by simp)
          generalize upd (upd H9 G (.lst (gs.map V.str))) p (.ins A.C_People dx (putF (Str.ofString "_groups") (.ref G) [("_held", .ref D)])) = H10 at hp10 hG10 hD10 dm10 k10 ⊢
          have fD : H D = none := by
            cases e : H D with
            | none => rfl
            | some o =>
              have := kD0 _ _ e (by simp)
              rw [hD0] at this
              cases this
          have fG : H G = none := by
            cases e : H G with
            | none => rfl
            | some o =>
              have := k9 _ _ (k8 _ _ e (by simpa using Ne.symm nGp)) (by simp)
              rw [nG] at this
              cases this
          have fin := q H10 D G dx ks' k10 pM (by rw [← egs]; exact ⟨hp10, hD10, dm10, hG10, gM, gmem, gl⟩) fD fG
          refine ⟨_, rfl, p, _, dx, _, _, rfl, hp10, T.cl_People, T.na_People__groups, rfl, ?_⟩
          refine ⟨G, _, rfl, .inl (.inl (Rd.of hG10)), ?_⟩
          refine ⟨_, _, rfl, rfl, _, rfl, ?_⟩
          refine ifF (decide_eq_false (by rw [List.length_map]; omega)) ?_
          exact fin
end
end K28
namespace K28
open PySem PySem.Spec PyProof.Rows L2 FR TL
open C8 (pss_cut pe_gc)
def usB (s : Str) : Bool := decide (1 ≤ s.length) && decide (s.length ≤ 8) && (tl s).all lc && decide (s ≠ Str.ofString "root")
theorem us_of {s : Str} (h : usB s = true) : Us s := by
  unfold usB at h
  simp only [Bool.and_eq_true, decide_eq_true_eq, List.all_eq_true] at h
  exact ⟨⟨h.1.1.1, h.1.1.2, h.1.2⟩, h.2⟩
def m0 : Mp := [(Str.ofString "ann", [Str.ofString "staff", Str.ofString "chess"]), (Str.ofString "bob", [Str.ofString "staff"]), (Str.ofString "staff", [Str.ofString "guests"])]
theorem mk_m0 : Mk m0 where
  nd := by decide +kernel
  us := fun e he => us_of (List.all_eq_true.mp (show m0.all (fun e => usB e.1) = true by decide +kernel) e he)
  gs := fun e he => by
    have a := List.all_eq_true.mp (show m0.all (fun e => e.2.all usB && decide e.2.Nodup && decide (1 ≤ e.2.length) && decide (e.2.length ≤ 6)) = true by decide +kernel) e he
    simp only [Bool.and_eq_true, decide_eq_true_eq, List.all_eq_true] at a
    exact ⟨fun x hx => us_of (a.1.1.1 x hx), a.1.1.2, a.1.2, a.2⟩
  l1 := by decide
  l6 := by decide
  few := ⟨[Str.ofString "staff", Str.ofString "chess", Str.ofString "guests"], by decide, fun e he g hg => by
    have a := List.all_eq_true.mp (show m0.all (fun e => e.2.all fun g => decide (g ∈ [Str.ofString "staff", Str.ofString "chess", Str.ofString "guests"])) = true by decide +kernel) e he
    exact of_decide_eq_true (List.all_eq_true.mp a g hg)⟩
end K28
namespace K28
open PySem PySem.Spec PyProof.Rows L2 FR TL
open C8 (pss_cut pe_gc)
open StX (pe_callS2 pa_star)
/-! ### the things that are handed in -/
inductive OddS (H : Hp) : V → PyData → Prop
  | non : OddS H .non .none
  | bl (b : Bool) : OddS H (.bl b) (.bool b)
  | int (i : Int) : OddS H (.int i) (.int i)
  | str (s : Str) : OddS H (.str s) (.str s)
  | lst {a : Addr} {ws : List Str} : H a = some (.lst (ws.map V.str)) → sysModules < a → OddS H (.ref a) (.list (ws.map .str))
  | tup {a : Addr} {ws : List Str} : H a = some (.tup (ws.map V.str)) → OddS H (.ref a) (.tuple (ws.map .str))
  | dc0 {a : Addr} : H a = some (.dK []) → OddS H (.ref a) (.dict [])
def isDc : PyData → Bool | .dict _ => true | _ => false
def okB (e : PyData) : Bool := e.showable && decide (e.depth ≤ 1) && e.leavesShort 40 && decide (e.weight ≤ 200) && (SeqAt.shaped e || isDc e)
structure Odd (H : Hp) (v : V) (e : PyData) : Prop where
  s : OddS H v e
  b : okB e = true
theorem Odd.keepA {H H' : Hp} {v : V} {e : PyData} (h : Odd H v e) (k : ∀ a o, v = .ref a → H a = some o → H' a = some o) : Odd H' v e := by
  obtain ⟨h, ob⟩ := h
  refine ⟨?_, ob⟩
  cases h with
  | non => exact .non
  | bl b => exact .bl b
  | int i => exact .int i
  | str s => exact .str s
  | lst e b => exact .lst (k _ _ rfl e) b
  | tup e => exact .tup (k _ _ rfl e)
  | dc0 e => exact .dc0 (k _ _ rfl e)
theorem Odd.keep {H H' : Hp} {v : V} {e : PyData} (h : Odd H v e) (k : Keep [] H H') : Odd H' v e := h.keepA fun a o _ q => k a o q (by simp)
theorem Odd.keepb {H H' : Hp} {v : V} {e : PyData} {b : Addr} {x y z : Int} (h : Odd H v e) (hb : H b = some (bagO x y z)) (k : Keep [b] H H') : Odd H' v e := h.keepA fun a o ev q => k a o q (by
  intro m
  have m' : a = b := by simpa using m
  subst m'
  rw [hb] at q
  cases q
  subst ev
  obtain ⟨hs, _⟩ := h
  cases hs with
  | @lst _ ws e _ =>
    rw [hb] at e
    have q2 := congrArg (fun o => match o with | some (.lst (.int i :: _)) => true | _ => false) e
    cases ws <;> cases q2
  | tup e => rw [hb] at e; cases e
  | dc0 e => rw [hb] at e; cases e)
def tyN : PyData → String
  | .none => "NoneType"
  | .bool _ => "bool"
  | .int _ => "int"
  | .str _ => "str"
  | .list _ => "list"
  | .tuple _ => "tuple"
  | .dict _ => "dict"
theorem Odd.ty {K : PySem.W.Frag} {H : Hp} {v : V} {e : PyData} (h : Odd H v e) : TyX K H v (.type (tyN e)) := by
  obtain ⟨h, _⟩ := h
  cases h with
  | non => exact .base .non
  | bl b => exact .base (.bl b)
  | int i => exact .base (.int i)
  | str s => exact .base (.str s)
  | lst a _ => exact .base (.lst a)
  | tup a => exact .base (.tup a)
  | dc0 a => exact .base (.dK a)
def isS : PyData → Bool | .str _ => true | _ => false
theorem kit_str (e : PyData) : kitB (tyN e) "str" = some (isS e) := by
  cases e
  case none => exact (by decide +kernel : kitB "NoneType" "str" = some false)
  case bool => exact (by decide +kernel : kitB "bool" "str" = some false)
  case int => exact (by decide +kernel : kitB "int" "str" = some false)
  case str => exact (by decide +kernel : kitB "str" "str" = some true)
  case list => exact (by decide +kernel : kitB "list" "str" = some false)
  case tuple => exact (by decide +kernel : kitB "tuple" "str" = some false)
  case dict => exact (by decide +kernel : kitB "dict" "str" = some false)
structure Fine (d : PyData) (n : Nat) : Prop where
  s : d.showable = true
  dp : d.depth ≤ n
  ls : d.leavesShort 40 = true
  wt : d.weight ≤ 1000
theorem Fine.all {d : PyData} (h : Fine d 50) : d.showable = true ∧ d.depth ≤ 50 ∧ d.shown.length ≤ sizeLine :=
  ⟨h.s, h.dp, size_le (by have h1 := PyData.shown_le 40 (by decide) d h.ls; have h2 := h.wt; have h3 := Nat.mul_le_mul_left (40 + 2) h2; omega)⟩
theorem okB_all {e : PyData} (h : okB e = true) : e.showable = true ∧ e.depth ≤ 1 ∧ e.leavesShort 40 = true ∧ e.weight ≤ 200 ∧ (SeqAt.shaped e || isDc e) = true := by
  unfold okB at h
  simp only [Bool.and_eq_true, decide_eq_true_eq] at h
  exact ⟨h.1.1.1.1, h.1.1.1.2, h.1.1.2, h.1.2, h.2⟩
theorem dq_strs {H : Hp} : ∀ ws : List Str, DqAll H (ws.map V.str) (ws.map .str)
  | [] => .nil
  | s :: r => .cons (.str s) (dq_strs r)
theorem Odd.dq {H : Hp} {v : V} {e : PyData} (h : Odd H v e) : Dq H v e := by
  obtain ⟨h, _⟩ := h
  cases h with
  | non => exact .non
  | bl b => exact .bl b
  | int i => exact .int i
  | str s => exact .str s
  | lst h1 h2 => exact .lst h1 h2 (dq_strs _)
  | tup h1 => exact .tup h1 (dq_strs _)
  | dc0 h1 => exact .dct h1 .nil
/-- a list of a word, a thing and true -/
theorem Odd.tri {H : Hp} {v : V} {e : PyData} {s : Str} {p : Addr} (h : Odd H v e) (hs : okB (.str s) = true) (hp : H p = some (.lst [.str s, v, .bl true])) (hsp : sysModules < p) :
    Dq H (.ref p) (.list [.str s, e, .bool true]) ∧ (PyData.list [.str s, e, .bool true]).showable = true ∧ (PyData.list [.str s, e, .bool true]).depth ≤ 50 ∧ (PyData.list [.str s, e, .bool true]).shown.length ≤ sizeLine := by
  obtain ⟨a1, a2, a3, a4, _⟩ := okB_all h.b
  obtain ⟨b1, b2, b3, b4, _⟩ := okB_all hs
  refine ⟨.lst hp hsp (.cons (.str s) (.cons h.dq (.cons (.bl true) .nil))), Fine.all ⟨?_, ?_, ?_, ?_⟩⟩
  · simp only [PyData.showable, PyData.showableAll, a1, Bool.and_self]
  · simp only [PyData.depth, PyData.depthAll]
    omega
  · simp only [PyData.leavesShort, PyData.leavesShortAll, a3, Bool.and_self, Bool.true_and, Bool.and_true]
    simpa [PyData.leavesShort] using b3
  · simp only [PyData.weight, PyData.weightAll] at *
    omega
/-! ### a thing beside a text and among texts -/
theorem Odd.dp {K : PySem.W.Frag} {H : Hp} {v : V} {e : PyData} (h : Odd H v e) : (Dp K H v e ∧ ∀ kvs, e ≠ .dict kvs) ∨ ∃ a, v = .ref a ∧ H a = some (.dK []) := by
  obtain ⟨h, _⟩ := h
  cases h with
  | non => exact .inl ⟨.non, fun _ z => by cases z⟩
  | bl b => exact .inl ⟨.bl b, fun _ z => by cases z⟩
  | int i => exact .inl ⟨.int i, fun _ z => by cases z⟩
  | str s => exact .inl ⟨.str s, fun _ z => by cases z⟩
  | lst h1 h2 => exact .inl ⟨.lst (.inl (.inl h1)) (dpAll_strs _), fun _ z => by cases z⟩
  | tup h1 => exact .inl ⟨.tup (.inl (.of h1)) (dpAll_strs _), fun _ z => by cases z⟩
  | dc0 h1 => exact .inr ⟨_, rfl, h1⟩
theorem str_eqv (a b : Str) : PyData.eqv (.str a) (.str b) = decide (a = b) := by
  show (a == b) = _
  by_cases c : a = b
  · rw [decide_eq_true c]; exact beq_iff_eq.mpr c
  · rw [decide_eq_false c]; exact beq_eq_false_iff_ne.mpr c
theorem sh_of {e : PyData} (h : okB e = true) (nd : ∀ kvs, e ≠ .dict kvs) : SeqAt.shaped e = true := by
  rcases Bool.or_eq_true_iff.mp (okB_all h).2.2.2.2 with h | h
  · exact h
  · cases e with
    | dict kvs => exact absurd rfl (nd kvs)
    | _ => cases h
/-- the text that a thing is -/
def isT (v : V) (b : Str) : Bool := decide (v = .str b)
theorem Odd.eqt {K : PySem.W.Frag} {H : Hp} {v : V} {e : PyData} (h : Odd H v e) {b : Str} (hb : SeqAt.shaped (.str b) = true) : EqT K H v b (isT v b) := by
  obtain ⟨hs, hB⟩ := id h
  rcases h.dp (K := K) with ⟨hd, nd⟩ | ⟨a, rfl, ha⟩
  · refine .inl ⟨e, hd, sh_of hB nd, hb, ?_⟩
    cases hs with
    | str s => rw [str_eqv]; exact decide_eq_decide.mpr ⟨fun z => by rw [z], fun z => V.str.inj z⟩
    | dc0 _ => exact absurd rfl (nd _)
    | _ => exact (decide_eq_false fun z => by cases z).symm
  · exact .inr ⟨a, _, rfl, ha, (decide_eq_false fun z => by cases z).symm⟩
theorem Odd.int {K : PySem.W.Frag} {H : Hp} {v : V} {e : PyData} (h : Odd H v e) {ws : List Str} (hw : SeqAt.shaped (.list (ws.map .str)) = true) : InT K H v ws (ws.any fun b => isT v b) := by
  obtain ⟨hs, hB⟩ := id h
  rcases h.dp (K := K) with ⟨hd, nd⟩ | ⟨a, rfl, ha⟩
  · refine .inr (.inl ⟨e, hd, sh_of hB nd, hw, ?_⟩)
    rw [List.any_map]
    congr 1
    funext b
    show PyData.eqv (.str b) e = _
    cases hs with
    | str s => rw [str_eqv]; exact decide_eq_decide.mpr ⟨fun z => by rw [z], fun z => (V.str.inj z).symm⟩
    | dc0 _ => exact absurd rfl (nd _)
    | _ => exact (decide_eq_false fun z => by cases z).symm
  · refine .inr (.inr ⟨a, _, rfl, ha, ?_⟩)
    rw [eq_comm, List.any_eq_false]
    exact fun b _ => by rw [isT, decide_eq_false fun z => by cases z]; exact Bool.false_ne_true
end K28
namespace K28
open PySem PySem.Spec PyProof.Rows L2 FR TL
open C8 (pss_cut pe_gc)
open StX (pe_callS2 pa_star)
section
variable {P : Program} {w : World} {K : PySem.W.Frag} {mg : Str → Option Value} {base : Heap} {A : Ads}
set_option pp.maxSteps 120
/-- the letters of a digit -/
def lw (d : Int) : Str := if d = 0 then "" else if d = 1 then "x" else if d = 2 then "w" else if d = 3 then "wx" else if d = 4 then "r" else if d = 5 then "rx" else if d = 6 then "rw" else "rwx"
def bv (k : Str) : Int := if k = "r" then 4 else if k = "w" then 2 else 1
def bit (d : Int) (k : Str) : Bool := Builtin.bitAnd d (bv k) != 0
def keysL : List Str := ["r", "w", "x"]
theorem eight {F : Int → Prop} (h : F 0 ∧ F 1 ∧ F 2 ∧ F 3 ∧ F 4 ∧ F 5 ∧ F 6 ∧ F 7) {d : Int} (d0 : 0 ≤ d) (d1 : d ≤ 7) : F d := by
  have : d = 0 ∨ d = 1 ∨ d = 2 ∨ d = 3 ∨ d = 4 ∨ d = 5 ∨ d = 6 ∨ d = 7 := by omega
  obtain ⟨a0, a1, a2, a3, a4, a5, a6, a7⟩ := h
  rcases this with rfl | rfl | rfl | rfl | rfl | rfl | rfl | rfl <;> assumption
/-- the texts of unlike letters, with their digits -/
def goodT : List (Str × Int) := [("", 0), ("x", 1), ("w", 2), ("wx", 3), ("xw", 3), ("r", 4), ("rx", 5), ("xr", 5), ("rw", 6), ("wr", 6), ("rwx", 7), ("rxw", 7), ("wrx", 7), ("wxr", 7), ("xrw", 7), ("xwr", 7)]
theorem dg_at (T : Txt w K mg A) {t : Str} {d : Int} (h : (t, d) ∈ goodT) : KDct K w A.K_DIGITS t (.int d) := by
  simp only [goodT, List.mem_cons, List.not_mem_nil, or_false, Prod.mk.injEq] at h
  rcases h with ⟨rfl, rfl⟩ | ⟨rfl, rfl⟩ | ⟨rfl, rfl⟩ | ⟨rfl, rfl⟩ | ⟨rfl, rfl⟩ | ⟨rfl, rfl⟩ | ⟨rfl, rfl⟩ | ⟨rfl, rfl⟩ | ⟨rfl, rfl⟩ | ⟨rfl, rfl⟩ | ⟨rfl, rfl⟩ | ⟨rfl, rfl⟩ | ⟨rfl, rfl⟩ | ⟨rfl, rfl⟩ | ⟨rfl, rfl⟩ | ⟨rfl, rfl⟩
  · exact T.at_DIGITS_
  · exact T.at_DIGITS_x
  · exact T.at_DIGITS_w
  · exact T.at_DIGITS_wx
  · exact T.at_DIGITS_xw
  · exact T.at_DIGITS_r
  · exact T.at_DIGITS_rx
  · exact T.at_DIGITS_xr
  · exact T.at_DIGITS_rw
  · exact T.at_DIGITS_wr
  · exact T.at_DIGITS_rwx
  · exact T.at_DIGITS_rxw
  · exact T.at_DIGITS_wrx
  · exact T.at_DIGITS_wxr
  · exact T.at_DIGITS_xrw
  · exact T.at_DIGITS_xwr
theorem dg_in (T : Txt w K mg A) {t : Str} {d : Int} (h : (t, d) ∈ goodT) : ∃ u, PySem.W.nsIn K A.K_DIGITS t = some (some u) := by
  obtain ⟨_, _, u, _, _, hu, _⟩ := dg_at T h
  exact ⟨u, hu⟩
def wordsL : List V := [.str "", .str "x", .str "w", .str "wx", .str "r", .str "rx", .str "rw", .str "rwx"]
theorem wd_at {d : Int} (d0 : 0 ≤ d) (d1 : d ≤ 7) : atI wordsL d = some (.str (lw d)) := by
  have : d = 0 ∨ d = 1 ∨ d = 2 ∨ d = 3 ∨ d = 4 ∨ d = 5 ∨ d = 6 ∨ d = 7 := by omega
  rcases this with rfl | rfl | rfl | rfl | rfl | rfl | rfl | rfl <;> rfl
theorem wd_sq (T : Txt w K mg A) (H : Hp) : SqT K H A.K_WORDS wordsL := .inr T.tu_WORDS
theorem lw_good {d : Int} (d0 : 0 ≤ d) (d1 : d ≤ 7) : (lw d, d) ∈ goodT := eight (F := fun d => (lw d, d) ∈ goodT) (by decide +kernel) d0 d1
theorem good_in {t : Str} {d : Int} (h : (t, d) ∈ goodT) : 0 ≤ d ∧ d ≤ 7 := by
  have : goodT.all (fun p => decide (0 ≤ p.2) && decide (p.2 ≤ 7)) = true := by decide +kernel
  simpa using List.all_eq_true.mp this _ h
/-- a rights object of this digit -/
def RgO (A : Ads) (dx : Addr) (d : Int) : HO := .ins A.C_Rights dx [("_digit", .int d)]
def IsR (A : Ads) (H : Hp) (v : V) (d : Int) : Prop := ∃ a dx, v = .ref a ∧ H a = some (RgO A dx d) ∧ 0 ≤ d ∧ d ≤ 7
def spDig (A : Ads) : Sp := fun vs H Q _ => ∃ v d, vs = [v] ∧ IsR A H v d ∧ Q (.int d) H
theorem ok_Rights_digit (T : Txt w K mg A) : FnOk P w K mg base CX0 1 A.f_Rights_digit A.d_Rights_digit ["self"] (spDig A) := by
  refine T.F_Rights_digit.ok sc_Rights_digit (fun vs H Q E h => ?_) (fun cdv A_ outer s H vs Q E hr h => ?_)
  · obtain ⟨v, d, rfl, _⟩ := h
    rfl
  · obtain ⟨_, d, rfl, ⟨a, dx, rfl, ha, d0, d1⟩, q⟩ := h
    refine ⟨_, (pss_one (ps_ret (pe_fld (pv 0) rfl))), ?_⟩
    exact ⟨_, rfl, a, _, dx, _, _, rfl, ha, T.cl_Rights, T.na_Rights__digit, rfl, q⟩
theorem ok__digit_of (T : Txt w K mg A) : FnOk P w K mg base CX0 3 A.f__digit_of A.d__digit_of ["value"] (spDig A) := by
  refine T.F__digit_of.ok sc__digit_of (fun vs H Q E h => ?_) (fun cdv A_ outer s H vs Q E hr h => ?_)
  · obtain ⟨v, d, rfl, _⟩ := h
    rfl
  · obtain ⟨_, d, rfl, ⟨a, dx, rfl, ha, d0, d1⟩, q⟩ := h
    refine ⟨_, (pss_cons (ps_if (pt_not (pt_val (pe_callB (C8.call_isC T.in_Rights) (by rfl) T.b_isinstance (by decide +kernel) (pa_cons (pv 0) (pa_cons (pe_gc rfl T.c_Rights) pa_nil))))) (pss_one ps_never) pss_nil)
  (pss_one (ps_ret (pe_prop (pv 0) T.cl_Rights T.pr_Rights_digit (ok_Rights_digit T) (hr.mono (by decide)) T.B_Rights_digit .nil pass0 rfl)))), ?_⟩
    walk_at "rd"
    refine ⟨a, dx, _, rfl, ha, _, rfl, ?_⟩
    refine ifF rfl ?_
    exact ⟨_, rfl, a, dx, _, rfl, ha, _, d, rfl, ⟨a, dx, rfl, ha, d0, d1⟩, q⟩
/-- the digit of a text of letters -/
def letD : PyData → Option Int
  | .str t => goodT.lookup t
  | _ => none
theorem letD_str {t : Str} {d : Int} (h : letD (.str t) = some d) : (t, d) ∈ goodT := PySem.mem_of_lookup h
theorem letD_of {t : Str} {d : Int} (h : (t, d) ∈ goodT) : letD (.str t) = some d := by
  have : goodT.all (fun p => goodT.lookup p.1 == some p.2) = true := by decide +kernel
  simpa [letD] using List.all_eq_true.mp this _ h
theorem letD_no {t : Str} (h : letD (.str t) = none) : t ∉ (["", "x", "w", "wx", "xw", "r", "rx", "xr", "rw", "wr", "rwx", "rxw", "wrx", "wxr", "xrw", "xwr"] : List Str) := by
  intro m
  have : (["", "x", "w", "wx", "xw", "r", "rx", "xr", "rw", "wr", "rwx", "rxw", "wrx", "wxr", "xrw", "xwr"] : List Str).all (fun t => (goodT.lookup t).isSome) = true := by decide +kernel
  have q := List.all_eq_true.mp this _ m
  rw [show goodT.lookup t = none from h] at q
  cases q
/-- what is a text of letters, and what is none -/
theorem ok__is_letters (T : Txt w K mg A) : FnOk P w K mg base CX0 1 A.f__is_letters A.d__is_letters ["value"] (fun vs H Q _ => ∃ v, vs = [v] ∧ ((∃ t d, v = .str t ∧ (t, d) ∈ goodT ∧ Q (.bl true) H) ∨ ∃ e, Odd H v e ∧ letD e = none ∧ Q (.bl false) H)) := by
  refine T.F__is_letters.ok sc__is_letters (fun vs H Q E h => ?_) (fun cdv A_ outer s H vs Q E hr h => ?_)
  · obtain ⟨v, rfl, _⟩ := h
    rfl
  · obtain ⟨v, rfl, ⟨t, d, rfl, g, q⟩ | ⟨e, he, hl, q⟩⟩ := h
    · refine ⟨_, (pss_one (ps_ret (pe_and (pe_callB call_isi (by rfl) T.b_isinstance (by decide +kernel) (pa_cons (pv 0) (pa_cons (pe_bltn (v := .ty "str") rfl T.b_str (by decide +kernel) rfl) pa_nil))) (pe_one (pe_cmpR (op_inW (K := K) (w := w) rfl rfl T.kd_DIGITS) (pv 0) (pe_gc rfl T.c_DIGITS) rfl))))), ?_⟩
      walk_at "rd"
      obtain ⟨u, hu⟩ := dg_in T g
      exact ⟨_, _, rfl, rfl, hu, q⟩
    · refine ⟨_, (pss_one (ps_ret (pe_and (pe_callB call_isi (by rfl) T.b_isinstance (by decide +kernel) (pa_cons (pv 0) (pa_cons (pe_bltn (v := .ty "str") rfl T.b_str (by decide +kernel) rfl) pa_nil))) (pe_one (pe_cmpR (op_inW (K := K) (w := w) rfl rfl T.kd_DIGITS) (pv 0) (pe_gc rfl T.c_DIGITS) rfl))))), ?_⟩
      have hk := kit_str e
      have ty : TyX K H v (.type (tyN e)) := he.ty
      walk_at "rd"
      refine ⟨_, _, _, _, _, rfl, .ty _, ty, kit_ty hk, ?_⟩
      obtain ⟨hs, _⟩ := he
      cases hs with
      | str s =>
        have hr1 := T.ms_DIGITS s (letD_no hl)
        walk_at "rd"
        exact ⟨_, _, rfl, rfl, hr1, q⟩
      | _ => walk_at "rd"; exact q
def spInitR (A : Ads) : Sp := fun vs H Q _ => ∃ x dx t d, vs = [.ref x, .str t] ∧ H x = some (.ins A.C_Rights dx []) ∧ (t, d) ∈ goodT ∧ ∀ H1, Keep [x] H H1 → H1 x = some (RgO A dx d) → Q .non H1
theorem ok_Rights___init__ (T : Txt w K mg A) : FnOk P w K mg base CX0 2 A.f_Rights___init__ A.d_Rights___init__ ["self", "letters"] (spInitR A) := by
  refine (T.F_Rights___init__.ok (CX := CX0) sc_Rights___init__ (fun vs H Q E h => ?_) (fun cdv A_ outer s H vs Q E hr h => ?_))
  · obtain ⟨x, dx, t, d, rfl, _⟩ := h
    rfl
  · obtain ⟨x, dx, t, d, rfl, hx, g, q⟩ := h
    refine ⟨_, (pss_cons (ps_if (pt_not (pt_val (pe_call (ok__is_letters T) (hr.mono (by decide)) (by rfl) T.g__is_letters T.F__is_letters.kp T.B__is_letters .nil pass0 (pa_cons (pv 1) pa_nil)))) (pss_one ps_never) pss_nil)
  (pss_one (ps_fld (pv 0) (pe_ix (ix_kdictK (K := K) (w := w) rfl rfl) (pe_gc rfl T.c_DIGITS) (pv 1) (fun _ _ => rfl)) rfl))), ?_⟩
    walk_at "rd"
    refine .inl ⟨t, d, rfl, g, ?_⟩
    walk_at "rd"
    refine ⟨_, _, _, rfl, rfl, dg_at T g, ?_⟩
    refine ⟨_, rfl, x, _, dx, _, rfl, hx, T.cl_Rights, T.na_Rights__digit, by decide, ?_⟩
    exact q _ keep_upd upd_same
theorem bd_Rights___init___1 (T : Txt w K mg A) : Vals [] [] ∧ Binds K A.d_Rights___init__ ["self", "letters"] [] := by
  obtain ⟨ds, h1, h2⟩ := T.F_Rights___init__.binds1 (ps := ["self", "letters"]) 2 1 (by simp) rfl fun Tt kV doc pm an cdv ct us its h1 h2 => match us, its, h1, h2 with
    | [_, _], [_], _, _ => ⟨_, rfl, rfl⟩
  cases h1
  exact ⟨.nil, h2⟩
theorem bd_Rights___init___0 (T : Txt w K mg A) : ∃ ds, Vals [.str ""] ds ∧ Binds K A.d_Rights___init__ ["self", "letters"] ds := by
  obtain ⟨ds, h1, h2⟩ := T.F_Rights___init__.binds1 (ps := ["self", "letters"]) 1 0 (by simp) rfl fun Tt kV doc pm an cdv ct us its h1 h2 => match us, its, h1, h2 with
    | [_], [_], _, _ => ⟨_, rfl, rfl⟩
  exact ⟨ds, h1, h2⟩
/-- a new rights object of this digit -/
def NewR (A : Ads) (d : Int) (Q : VK) (H : Hp) : Prop := ∀ (x dx : Addr) (H1 : Hp), H x = none → H dx = none → Keep [] H H1 → H1 x = some (RgO A dx d) → Q (.ref x) H1
def spBin (A : Ads) (f : Int → Int → Int) : Sp := fun vs H Q _ => ∃ v d v' d', vs = [v, v'] ∧ IsR A H v d ∧ IsR A H v' d' ∧ NewR A (f d d') Q H
theorem keep_of_new {H H1 H2 : Hp} {x dx : Addr} {o o' : HO} (k1 : Keep [] H H1) (hx : H1 x = none) (hdx : H1 dx = none) (k2 : Keep [x] (upd (upd H1 dx o) x o') H2) : Keep [] H H2 := fun b u e _ => by
  have e1 := k1 b u e (by simp)
  have n1 : b ≠ dx := ne_of_none e1 hdx
  have n2 : b ≠ x := ne_of_none e1 hx
  refine k2 b u ?_ (by simpa using n2)
  rw [upd_ne n2, upd_ne n1]
  exact e1
theorem or_in {d d' : Int} (d0 : 0 ≤ d) (d1 : d ≤ 7) (e0 : 0 ≤ d') (e1 : d' ≤ 7) : 0 ≤ Builtin.bitOr d d' ∧ Builtin.bitOr d d' ≤ 7 :=
  eight (F := fun d => ∀ d', 0 ≤ d' → d' ≤ 7 → 0 ≤ Builtin.bitOr d d' ∧ Builtin.bitOr d d' ≤ 7) (by
    refine ⟨?_, ?_, ?_, ?_, ?_, ?_, ?_, ?_⟩ <;> exact fun d' a b => eight (F := fun e => 0 ≤ Builtin.bitOr _ e ∧ Builtin.bitOr _ e ≤ 7) (by decide +kernel) a b) d0 d1 d' e0 e1
theorem ok_Rights___or__ (T : Txt w K mg A) : FnOk P w K mg base CX0 5 A.f_Rights___or__ A.d_Rights___or__ ["self", "other"] (spBin A Builtin.bitOr) := by
  refine T.F_Rights___or__.ok sc_Rights___or__ (fun vs H Q E h => ?_) (fun cdv A_ outer s H vs Q E hr h => ?_)
  · obtain ⟨v, d, v', d', rfl, _⟩ := h
    rfl
  · obtain ⟨_, d, _, d', rfl, ⟨a, dx, rfl, ha, d0, d1⟩, ⟨a', dx', rfl, ha', d0', d1'⟩, q⟩ := h
    refine ⟨_, (pss_one (ps_ret (pe_make T.mk_Rights (ok_Rights___init__ T) (hr.mono (by decide)) (by rfl) T.gC_Rights (bd_Rights___init___1 T).2 (bd_Rights___init___1 T).1 pass0 (pa_cons (pe_ix ix_tup (pe_gc rfl T.c_WORDS) (pe_op op_or (pe_fld (pv 0) rfl) (pe_call (ok__digit_of T) (hr.mono (by decide)) (by rfl) T.g__digit_of T.F__digit_of.kp T.B__digit_of .nil pass0 (pa_cons (pv 1) pa_nil))) (fun _ _ => rfl)) pa_nil)))), ?_⟩
    refine ⟨_, rfl, a, _, dx, _, _, rfl, ha, T.cl_Rights, T.na_Rights__digit, rfl, ?_⟩
    walk_at "rd"
    refine ⟨_, d', rfl, ⟨a', dx', rfl, ha', d0', d1'⟩, ?_⟩
    refine ⟨_, _, rfl, rfl, ?_⟩
    obtain ⟨f0, f1⟩ := or_in d0 d1 d0' d1'
    refine ⟨_, _, _, _, rfl, rfl, wd_sq T H, wd_at f0 f1, ?_⟩
    intro x dy hx hdy hne
    refine ⟨x, dy, _, _, rfl, upd_same, lw_good f0 f1, fun H2 k2 h2 => ⟨rfl, ?_⟩⟩
    exact q x dy H2 hx hdy (keep_of_new Keep.refl hx hdy k2) h2
/-- what stands for rights of this digit -/
def Part (A : Ads) (H : Hp) (v : V) (d : Int) : Prop := IsR A H v d ∨ ∃ t, v = .str t ∧ (t, d) ∈ goodT
theorem IsR.keep {H H' : Hp} {v : V} {d : Int} (h : IsR A H v d) (k : Keep [] H H') : IsR A H' v d := by
  obtain ⟨a, dx, rfl, ha, r⟩ := h
  exact ⟨a, dx, rfl, k _ _ ha (by simp), r⟩
theorem Part.keep {H H' : Hp} {v : V} {d : Int} (h : Part A H v d) (k : Keep [] H H') : Part A H' v d := h.imp (fun z => IsR.keep z k) id
theorem Part.in_ {H : Hp} {v : V} {d : Int} (h : Part A H v d) : 0 ≤ d ∧ d ≤ 7 := by
  rcases h with ⟨a, dx, rfl, ha, d0, d1⟩ | ⟨t, rfl, g⟩
  · exact ⟨d0, d1⟩
  · exact good_in g
theorem ok_as_rights (T : Txt w K mg A) : FnOk P w K mg base CX0 4 A.f_as_rights A.d_as_rights ["value"] (fun vs H Q _ => ∃ v d, vs = [v] ∧ ((IsR A H v d ∧ Q v H) ∨ ∃ t, v = .str t ∧ (t, d) ∈ goodT ∧ NewR A d Q H)) := by
  refine T.F_as_rights.ok sc_as_rights (fun vs H Q E h => ?_) (fun cdv A_ outer s H vs Q E hr h => ?_)
  · obtain ⟨v, d, rfl, _⟩ := h
    rfl
  · obtain ⟨v, d, rfl, h⟩ := h
    refine ⟨_, (pss_one (ps_ret (pe_ifExp (pt_val (pe_callB (call_isA T.in_Rights) (by rfl) T.b_isinstance (by decide +kernel) (pa_cons (pv 0) (pa_cons (pe_gc rfl T.c_Rights) pa_nil)))) (pv 0) (pe_make T.mk_Rights (ok_Rights___init__ T) (hr.mono (by decide)) (by rfl) T.gC_Rights (bd_Rights___init___1 T).2 (bd_Rights___init___1 T).1 pass0 (pa_cons (pv 0) pa_nil))))), ?_⟩
    rcases h with ⟨⟨a, dx, rfl, ha, d0, d1⟩, q⟩ | ⟨t, rfl, g, q⟩
    · walk_at "rd"
      refine .inl ⟨a, dx, _, rfl, ha, ?_⟩
      refine ⟨true, rfl, ?_⟩
      refine ifT rfl ?_
      exact ⟨_, rfl, q⟩
    · walk_at "rd"
      refine .inr ⟨_, _, _, _, _, rfl, .own _, .base (.str _), T.kt_Rights_str, ?_⟩
      refine ⟨false, rfl, ?_⟩
      refine ifF rfl ?_
      walk_at "rd"
      intro x dy hx hdy hne
      refine ⟨x, dy, _, _, rfl, upd_same, g, fun H2 k2 h2 => ⟨rfl, ?_⟩⟩
      exact q x dy H2 hx hdy (keep_of_new Keep.refl hx hdy k2) h2
/-- the letters of all together -/
def orAll (ds : List Int) : Int := ds.foldl Builtin.bitOr 0
theorem orAll_in : ∀ (ds : List Int), (∀ d ∈ ds, 0 ≤ d ∧ d ≤ 7) → ∀ a : Int, 0 ≤ a → a ≤ 7 → 0 ≤ ds.foldl Builtin.bitOr a ∧ ds.foldl Builtin.bitOr a ≤ 7
  | [], _, a, a0, a1 => ⟨a0, a1⟩
  | d :: r, h, a, a0, a1 => by
    obtain ⟨d0, d1⟩ := h d (by simp)
    obtain ⟨o0, o1⟩ := or_in a0 a1 d0 d1
    exact orAll_in r (fun e he => h e (by simp [he])) _ o0 o1
theorem bin_at {f : Int → Int → Int} {H : Hp} {r1 dr1 r2 dr2 : Addr} {d e : Int} {Q : VK} (h1 : H r1 = some (RgO A dr1 d)) (h2 : H r2 = some (RgO A dr2 e)) (d0 : 0 ≤ d) (d1 : d ≤ 7) (e0 : 0 ≤ e) (e1 : e ≤ 7) (q : NewR A (f d e) Q H) :
    rBinI A.C_Rights (fun vs H Q E => spBin A f (vs ++ []) H Q E) E0 (.ref r1) (.ref r2) H Q := ⟨r1, dr1, _, r2, dr2, _, rfl, rfl, h1, h2, _, d, _, e, rfl, ⟨r1, dr1, rfl, h1, d0, d1⟩, ⟨r2, dr2, rfl, h2, e0, e1⟩, q⟩
def spOf0 (A : Ads) : Sp := fun vs H Q _ => ∃ (t : Addr) (ps : List (V × Int)), vs = [.ref A.C_Rights, .ref t] ∧ H t = some (.tup (ps.map (·.1))) ∧ (∀ p ∈ ps, Part A H p.1 p.2) ∧ NewR A (orAll (ps.map (·.2))) Q H
def spOf (A : Ads) : Sp := fun vs H Q _ => ∃ (ps : List (V × Int)), vs = .ref A.C_Rights :: ps.map (·.1) ∧ ps.length ≤ 100 ∧ (∀ p ∈ ps, Part A H p.1 p.2) ∧ NewR A (orAll (ps.map (·.2))) Q H
theorem NewR.new {d : Int} {Q : VK} {H : Hp} {p : Addr} {o : HO} (q : NewR A d Q H) (np : H p = none) : NewR A d Q (upd H p o) := fun x dx H1 hx hdx k h => q x dx H1 ((keep_new np).free hx) ((keep_new np).free hdx) ((keep_new np).trans k) h
theorem ok_Rights_of (T : Txt w K mg A) : FnR P w K mg base CX0 6 A.f_Rights_of (spOf A) := by
  refine FnR.imp (okStar (ps := ["cls"]) (pv := "parts") (sp := spOf0 A) T.F_Rights_of sc_Rights_of (fun kV doc pm an cdv ct us rest hl => ?_) (fun cdv A_ outer s H vs Q E hr h => ?_)) fun vs H Q E h => ?_
  · exact StX.bind_star1 (B := fun us => bindArgs (PySem.W.fnOf "of" "Rights.of" (defArgs s_Rights_of) (defBody s_Rights_of) (defScope s_Rights_of) .none kV doc pm an cdv ct) ⟨us, []⟩) (fun a => rfl) (fun a r rs => rfl) us rest hl
  · obtain ⟨t, ps, rfl, ht, hp, q⟩ := h
    refine ⟨_, (pss_cons (ps_set (i := 2) sc_Rights_of.nd rfl (.inl rfl) (pe_makeL0 (pv 0) T.mk_Rights (ok_Rights___init__ T) (hr.mono (by decide)) (bd_Rights___init___0 T).choose_spec.2 (bd_Rights___init___0 T).choose_spec.1 pass0))
  (pss_cons (ps_for PassesOwn.never rfl (pi_tup (pv 1)) (pg_name (i := 3) sc_Rights_of.nd rfl (.inl rfl)) (pss_one (ps_set (i := 2) sc_Rights_of.nd rfl (.inl rfl) (pe_op (op_binI T.sf_Rights T.me_Rights___or__.at_ T.me_Rights___or__.fn ((ok_Rights___or__ T).raw T.B_Rights___or__ .nil) (hr.mono (by decide)) pass0) (pv 2) (pe_call (ok_as_rights T) (hr.mono (by decide)) (by rfl) T.g_as_rights T.F_as_rights.kp T.B_as_rights .nil pass0 (pa_cons (pv 3) pa_nil))))))
  (pss_one (ps_ret (pv 2))))), ?_⟩
    have W : Ow H [] H [] := Ow.start0
    walk_at "rd"
    refine ⟨rfl, ?_⟩
    intro r1 dr1 hr1 hdr1 hne1
    refine ⟨r1, dr1, _, _, rfl, upd_same, (show (Str.ofString "", 0) ∈ goodT by decide +kernel), fun H2 k2 h2 => ⟨rfl, ?_⟩⟩
    have K2 := keep_of_new Keep.refl hr1 hdr1 k2
    walk_at "rd"
    have ht2 := K2 _ _ ht (by simp)
    refine ⟨⟨_, .inl (.inl ht2)⟩, ?_⟩
    refine for_tu (a := t) (xs := ps.map (·.1)) (fun pre σ H' => ∃ r dr y, σ = [some (.ref A.C_Rights), some (.ref t), some (.ref r), y] ∧ Keep [] H H' ∧ H r = none ∧ H dr = none ∧ H' r = some (RgO A dr (orAll ((ps.take pre.length).map (·.2))))) ⟨r1, dr1, _, rfl, K2, hr1, hdr1, h2⟩ ?_ ?_ ?_
    · rintro pre post σ H3 e ⟨r, dr, y, rfl, k3, _⟩
      exact .inl (.inl (k3 _ _ ht (by simp)))
    · rintro pre v post σ H3 e ⟨r, dr, y, rfl, k3, hr0, hdr0, hr3⟩
      obtain ⟨z, hz, rfl⟩ : ∃ z, ps[pre.length]? = some z ∧ z.1 = v := by
        have h1 := congrArg (fun l => l[pre.length]?) e
        simp only [List.getElem?_append_right (Nat.le_refl _), Nat.sub_self, List.getElem?_cons_zero, List.getElem?_map] at h1
        cases hz : ps[pre.length]? with
        | none => rw [hz] at h1; cases h1
        | some z => rw [hz] at h1; exact ⟨z, rfl, Option.some.inj h1⟩
      have hzm := List.mem_of_getElem? hz
      have hzp := hp z hzm
      obtain ⟨z0, z1⟩ := Part.in_ hzp
      have ea : orAll ((ps.take (pre ++ [z.1]).length).map (·.2)) = Builtin.bitOr (orAll ((ps.take pre.length).map (·.2))) z.2 := by
        rw [List.length_append, List.length_singleton, List.take_add_one, hz]
        unfold orAll
        rw [List.map_append, List.foldl_append]
        rfl
      obtain ⟨o0, o1⟩ := orAll_in ((ps.take pre.length).map (·.2)) (fun d hd => by
        obtain ⟨y, hy, rfl⟩ := List.mem_map.mp hd
        exact Part.in_ (hp y (List.mem_of_mem_take hy))) 0 (by decide) (by decide)
      obtain ⟨zv, zd⟩ := z
      dsimp only at ea z0 z1 hzp
      have main : ∀ (v2 dv2 : Addr) (H4 : Hp) (F : VK), Keep [] H3 H4 → H4 v2 = some (RgO A dv2 zd) → (∀ (x dx : Addr) (H5 : Hp), Keep [] H H5 → H x = none → H dx = none → H5 x = some (RgO A dx (orAll ((ps.take (pre ++ [zv]).length).map (·.2)))) → F (.ref x) H5) →
          rBinI A.C_Rights (fun vs H Q E => spBin A Builtin.bitOr (vs ++ []) H Q E) E0 (.ref r) (.ref v2) H4 F := by
        intro v2 dv2 H4 F k4 hv4 f
        refine bin_at (k4 _ _ hr3 (by simp)) hv4 o0 o1 z0 z1 ?_
        intro x dx H5 hx hdx k5 h5
        have k34 : Keep [] H H4 := Keep.trans k3 k4
        refine f x dx H5 (k34.trans k5) (k34.free hx) (k34.free hdx) ?_
        rw [ea]
        exact h5
      walk_at "rd"
      rcases hzp with ⟨a, dx, rfl, ha, _⟩ | ⟨t', rfl, g⟩
      · have ha3 := k3 _ _ ha (by simp)
        refine ⟨_, zd, rfl, .inl ⟨⟨a, dx, rfl, ha3, z0, z1⟩, ?_⟩⟩
        refine main a dx H3 _ Keep.refl ha3 fun x dx' H5 k5 n1 n2 h5 => ?_
        exact ⟨x, dx', _, rfl, k5, n1, n2, h5⟩
      · refine ⟨_, zd, rfl, .inr ⟨t', rfl, g, ?_⟩⟩
        intro v2 dv2 H4 hv2 hdv2 k4 h4
        refine main v2 dv2 H4 _ k4 h4 fun x dx' H5 k5 n1 n2 h5 => ?_
        exact ⟨x, dx', _, rfl, k5, n1, n2, h5⟩
    · rintro σ H3 ⟨r, dr, y, rfl, k3, hr0, hdr0, hr3⟩
      walk_at "rd"
      refine q r dr H3 hr0 hdr0 k3 ?_
      rw [hr3, List.length_map, List.take_length]
  · obtain ⟨ps, rfl, hl, hp, q⟩ := h
    exact ⟨[.ref A.C_Rights], ps.map (·.1), rfl, rfl, size_le (by rw [List.length_map]; omega), fun p np => ⟨p, ps, rfl, upd_same, fun z hz => (hp z hz).keep (keep_new np), q.new np⟩⟩
end
end K28
namespace K28
open PySem PySem.Spec PyProof.Rows L2 FR TL
open C8 (pss_cut pe_gc)
open StX (pe_callS2 pa_star)
/-! dicts from names to digits -/
abbrev Dm := List (Str × Int)
def dget (m : Dm) (u : Str) : Option Int := (m.find? fun e => decide (e.1 = u)).map (·.2)
def DV (R : V → Int → Prop) : List (L2.Key × V) → Dm → Prop := Paired fun kv e => kv.1 = Sum.inr e.1 ∧ R kv.2 e.2
theorem DV.imp {R S : V → Int → Prop} {kvs : List (L2.Key × V)} {m : Dm} (h : DV R kvs m) (f : ∀ x d, R x d → S x d) : DV S kvs m := Paired.mapP h fun _ _ ⟨e, r⟩ => ⟨e, f _ _ r⟩
theorem DV.len {R : V → Int → Prop} {kvs : List (L2.Key × V)} {m : Dm} (h : DV R kvs m) : kvs.length = m.length := Paired.length h
theorem DV.keys {R : V → Int → Prop} {kvs : List (L2.Key × V)} {m : Dm} (h : DV R kvs m) : kvs.map (·.1) = (m.map (·.1)).map Sum.inr := by
  unfold DV at h
  induction h with
  | nil => rfl
  | cons h t ih => rw [List.map_cons, List.map_cons, List.map_cons, ih, h.1]
theorem DV.val {R : V → Int → Prop} {kvs : List (L2.Key × V)} {m : Dm} (h : DV R kvs m) (u : Str) : (valV kvs (Sum.inr u) = none ∧ dget m u = none ∧ u ∉ m.map (·.1)) ∨ ∃ v d, valV kvs (Sum.inr u) = some v ∧ dget m u = some d ∧ R v d ∧ u ∈ m.map (·.1) := by
  unfold DV at h
  induction h with
  | nil => exact .inl ⟨rfl, rfl, by simp⟩
  | @cons kv e a b h t ih =>
    by_cases c : e.1 = u
    · refine .inr ⟨kv.2, e.2, valV_pos (by rw [h.1, c]), ?_, h.2, by simp [c]⟩
      unfold dget
      rw [List.find?_cons_of_pos (by simpa using c)]
      rfl
    · have e1 : valV (kv :: a) (Sum.inr u) = valV a (Sum.inr u) := valV_neg (by rw [h.1]; exact fun z => c (Sum.inr.inj z))
      have e2 : dget (e :: b) u = dget b u := by
        unfold dget
        rw [List.find?_cons_of_neg (by simpa using c)]
      rw [e1, e2]
      rcases ih with ⟨i1, i2, i3⟩ | ⟨v, d, i1, i2, i3, i4⟩
      · exact .inl ⟨i1, i2, by rw [List.map_cons, List.mem_cons, not_or]; exact ⟨fun z => c z.symm, i3⟩⟩
      · exact .inr ⟨v, d, i1, i2, i3, by rw [List.map_cons]; exact List.mem_cons_of_mem _ i4⟩
theorem DV.snoc {R : V → Int → Prop} {kvs : List (L2.Key × V)} {m : Dm} (h : DV R kvs m) {u : Str} {v : V} {d : Int} (r : R v d) (hu : u ∉ m.map (·.1)) : putK kvs (Sum.inr u) v = kvs ++ [(Sum.inr u, v)] ∧ DV R (kvs ++ [(Sum.inr u, v)]) (m ++ [(u, d)]) := by
  refine ⟨?_, ?_⟩
  · unfold putK
    rw [valV_any]
    rcases h.val u with ⟨e, _⟩ | ⟨_, _, _, _, _, c⟩
    · rw [e]; rfl
    · exact absurd c hu
  · clear hu
    unfold DV at h ⊢
    induction h with
    | nil => exact .cons ⟨rfl, r⟩ .nil
    | cons h t ih => exact .cons h ih
theorem dget_mem {m : Dm} {u : Str} {d : Int} (h : dget m u = some d) : (u, d) ∈ m := by
  unfold dget at h
  obtain ⟨e, h1, h2⟩ := Option.map_eq_some_iff.mp h
  have h3 := List.find?_some h1
  have : e = (u, d) := Prod.ext (of_decide_eq_true h3) h2
  rw [← this]
  exact List.mem_of_find?_eq_some h1
theorem dget_of : ∀ {m : Dm} {u : Str} {d : Int}, (m.map (·.1)).Nodup → (u, d) ∈ m → dget m u = some d
  | [], _, _, _, h => absurd h List.not_mem_nil
  | x :: r, u, d, nd, h => by
    rw [List.map_cons, List.nodup_cons] at nd
    unfold dget
    by_cases c : x.1 = u
    · rw [List.find?_cons_of_pos (by simpa using c)]
      rcases List.mem_cons.mp h with rfl | h
      · rfl
      · exact absurd (List.mem_map.mpr ⟨_, h, c.symm⟩) nd.1
    · rw [List.find?_cons_of_neg (by simpa using c)]
      rcases List.mem_cons.mp h with rfl | h
      · exact absurd rfl c
      · exact dget_of nd.2 h
/-- good names and digits -/
structure Dg (m : Dm) : Prop where
  nd : (m.map (·.1)).Nodup
  us : ∀ e ∈ m, Us e.1
  ds : ∀ e ∈ m, 0 ≤ e.2 ∧ e.2 ≤ 7
  l6 : m.length ≤ 6
theorem Dg.perm {m n : Dm} (h : Dg m) (p : n.Perm m) : Dg n :=
  ⟨(p.map _).nodup_iff.mpr h.nd, fun e he => h.us e (p.mem_iff.mp he), fun e he => h.ds e (p.mem_iff.mp he), by rw [p.length_eq]; exact h.l6⟩
def dd (m : Dm) (u : Str) : Int := (dget m u).getD 0
noncomputable def sd (m : Dm) : Dm := (srt (m.map (·.1))).map fun u => (u, dd m u)
theorem sd_eq {m : Dm} {ys : List Str} (p : ys.Perm (m.map (·.1))) (h : sortedS ys = true) : sd m = ys.map fun u => (u, dd m u) := by
  unfold sd
  rw [← srt_eq p h]
theorem dd_map {m : Dm} (nd : (m.map (·.1)).Nodup) : (m.map (·.1)).map (fun u => (u, dd m u)) = m := by
  rw [List.map_map]
  conv => rhs; rw [← List.map_id m]
  refine List.map_congr_left fun e he => ?_
  show (e.1, dd m e.1) = e
  unfold dd
  rw [dget_of nd he]
  rfl
theorem sd_perm {m : Dm} (nd : (m.map (·.1)).Nodup) {ys : List Str} (p : ys.Perm (m.map (·.1))) (h : sortedS ys = true) : (sd m).Perm m := by
  rw [sd_eq p h]
  have := p.map fun u => (u, dd m u)
  rwa [dd_map nd] at this
theorem dget_perm {m n : Dm} (nd : (m.map (·.1)).Nodup) (p : n.Perm m) (u : Str) : dget n u = dget m u := by
  cases h : dget m u with
  | some d => exact dget_of ((p.map _).nodup_iff.mpr nd) (p.mem_iff.mpr (dget_mem h))
  | none =>
    cases h2 : dget n u with
    | none => rfl
    | some d => rw [dget_of nd (p.mem_iff.mp (dget_mem h2))] at h; cases h
structure AcR where
  ow : Int
  gr : Int
  ot : Int
  us : Dm
  gs : Dm
  ma : Option Int
structure AccOk (c : AcR) : Prop where
  o : 0 ≤ c.ow ∧ c.ow ≤ 7
  g : 0 ≤ c.gr ∧ c.gr ≤ 7
  t : 0 ≤ c.ot ∧ c.ot ≤ 7
  u : Dg c.us
  s : Dg c.gs
  m : (c.ma = none ∧ c.us = [] ∧ c.gs = []) ∨ ∃ d, c.ma = some d ∧ 0 ≤ d ∧ d ≤ 7
structure ALx (A : Ads) (H : Hp) (p dx : Addr) (c : AcR) (o g t mv : V) (u s : Addr) (ku ks : List (L2.Key × V)) : Prop where
  ob : H p = some (.ins A.C_AccessList dx [("_owner", o), ("_group", g), ("_other", t), ("_users", .ref u), ("_groups", .ref s), ("_mask", mv)])
  ho : IsR A H o c.ow
  hg : IsR A H g c.gr
  ht : IsR A H t c.ot
  hu : H u = some (.dK ku)
  hs : H s = some (.dK ks)
  du : DV (IsR A H) ku (sd c.us)
  ds : DV (IsR A H) ks (sd c.gs)
  hm : (mv = .non ∧ c.ma = none) ∨ ∃ d, c.ma = some d ∧ IsR A H mv d
def AL (A : Ads) (H : Hp) (p : Addr) (c : AcR) : Prop := ∃ dx o g t mv u s ku ks, ALx A H p dx c o g t mv u s ku ks
theorem ALx.keep {A : Ads} {H H' : Hp} {p dx : Addr} {c : AcR} {o g t mv : V} {u s : Addr} {ku ks : List (L2.Key × V)} (h : ALx A H p dx c o g t mv u s ku ks) (k : Keep [] H H') : ALx A H' p dx c o g t mv u s ku ks :=
  ⟨k _ _ h.ob (by simp), IsR.keep h.ho k, IsR.keep h.hg k, IsR.keep h.ht k, k _ _ h.hu (by simp), k _ _ h.hs (by simp), h.du.imp fun _ _ r => IsR.keep r k, h.ds.imp fun _ _ r => IsR.keep r k, h.hm.imp id fun ⟨d, e, r⟩ => ⟨d, e, IsR.keep r k⟩⟩
theorem AL.keep {A : Ads} {H H' : Hp} {p : Addr} {c : AcR} (h : AL A H p c) (k : Keep [] H H') : AL A H' p c := by
  obtain ⟨dx, o, g, t, mv, u, s, ku, ks, h⟩ := h
  exact ⟨dx, o, g, t, mv, u, s, ku, ks, h.keep k⟩
section
variable {P : Program} {w : World} {K : PySem.W.Frag} {mg : Str → Option Value} {base : Heap} {A : Ads}
set_option pp.maxSteps 120
theorem ok_AccessList_owner (T : Txt w K mg A) : FnOk P w K mg base CX0 1 A.f_AccessList_owner A.d_AccessList_owner ["self"] (fun vs H Q _ => ∃ p dx c o g t mv u s ku ks, vs = [.ref p] ∧ ALx A H p dx c o g t mv u s ku ks ∧ Q o H) := by
  refine T.F_AccessList_owner.ok sc_AccessList_owner (fun vs H Q E h => ?_) (fun cdv A_ outer s_ H vs Q E hr h => ?_)
  · obtain ⟨p, dx, c, o, g, t, mv, u, s, ku, ks, rfl, _⟩ := h
    rfl
  · obtain ⟨p, dx, c, o, g, t, mv, u, s, ku, ks, rfl, h, q⟩ := h
    refine ⟨_, (pss_one (ps_ret (pe_fld (pv 0) rfl))), ?_⟩
    exact ⟨_, rfl, p, _, dx, _, _, rfl, h.ob, T.cl_AccessList, T.na_AccessList__owner, rfl, q⟩
theorem ok_AccessList_group (T : Txt w K mg A) : FnOk P w K mg base CX0 1 A.f_AccessList_group A.d_AccessList_group ["self"] (fun vs H Q _ => ∃ p dx c o g t mv u s ku ks, vs = [.ref p] ∧ ALx A H p dx c o g t mv u s ku ks ∧ Q g H) := by
  refine T.F_AccessList_group.ok sc_AccessList_group (fun vs H Q E h => ?_) (fun cdv A_ outer s_ H vs Q E hr h => ?_)
  · obtain ⟨p, dx, c, o, g, t, mv, u, s, ku, ks, rfl, _⟩ := h
    rfl
  · obtain ⟨p, dx, c, o, g, t, mv, u, s, ku, ks, rfl, h, q⟩ := h
    refine ⟨_, (pss_one (ps_ret (pe_fld (pv 0) rfl))), ?_⟩
    exact ⟨_, rfl, p, _, dx, _, _, rfl, h.ob, T.cl_AccessList, T.na_AccessList__group, rfl, q⟩
theorem ok_AccessList_other (T : Txt w K mg A) : FnOk P w K mg base CX0 1 A.f_AccessList_other A.d_AccessList_other ["self"] (fun vs H Q _ => ∃ p dx c o g t mv u s ku ks, vs = [.ref p] ∧ ALx A H p dx c o g t mv u s ku ks ∧ Q t H) := by
  refine T.F_AccessList_other.ok sc_AccessList_other (fun vs H Q E h => ?_) (fun cdv A_ outer s_ H vs Q E hr h => ?_)
  · obtain ⟨p, dx, c, o, g, t, mv, u, s, ku, ks, rfl, _⟩ := h
    rfl
  · obtain ⟨p, dx, c, o, g, t, mv, u, s, ku, ks, rfl, h, q⟩ := h
    refine ⟨_, (pss_one (ps_ret (pe_fld (pv 0) rfl))), ?_⟩
    exact ⟨_, rfl, p, _, dx, _, _, rfl, h.ob, T.cl_AccessList, T.na_AccessList__other, rfl, q⟩
theorem ok_AccessList_mask (T : Txt w K mg A) : FnOk P w K mg base CX0 1 A.f_AccessList_mask A.d_AccessList_mask ["self"] (fun vs H Q _ => ∃ p dx c o g t mv u s ku ks, vs = [.ref p] ∧ ALx A H p dx c o g t mv u s ku ks ∧ Q mv H) := by
  refine T.F_AccessList_mask.ok sc_AccessList_mask (fun vs H Q E h => ?_) (fun cdv A_ outer s_ H vs Q E hr h => ?_)
  · obtain ⟨p, dx, c, o, g, t, mv, u, s, ku, ks, rfl, _⟩ := h
    rfl
  · obtain ⟨p, dx, c, o, g, t, mv, u, s, ku, ks, rfl, h, q⟩ := h
    refine ⟨_, (pss_one (ps_ret (pe_fld (pv 0) rfl))), ?_⟩
    exact ⟨_, rfl, p, _, dx, _, _, rfl, h.ob, T.cl_AccessList, T.na_AccessList__mask, rfl, q⟩
theorem ok_AccessList_users (T : Txt w K mg A) : FnOk P w K mg base CX0 1 A.f_AccessList_users A.d_AccessList_users ["self"] (fun vs H Q _ => ∃ p dx c o g t mv u s ku ks, vs = [.ref p] ∧ ALx A H p dx c o g t mv u s ku ks ∧ NewO (.dK ku) Q H) := by
  refine T.F_AccessList_users.ok sc_AccessList_users (fun vs H Q E h => ?_) (fun cdv A_ outer s_ H vs Q E hr h => ?_)
  · obtain ⟨p, dx, c, o, g, t, mv, u, s, ku, ks, rfl, _⟩ := h
    rfl
  · obtain ⟨p, dx, c, o, g, t, mv, u, s, ku, ks, rfl, h, q⟩ := h
    refine ⟨_, (pss_one (ps_ret (pe_callTy call_dictD (by rfl) T.b_dict (by decide +kernel) (pa_cons (pe_fld (pv 0) rfl) pa_nil)))), ?_⟩
    exact ⟨_, rfl, p, _, dx, _, _, rfl, h.ob, T.cl_AccessList, T.na_AccessList__users, rfl, u, ku, rfl, .inl h.hu, q.all⟩
theorem ok_AccessList_groups (T : Txt w K mg A) : FnOk P w K mg base CX0 1 A.f_AccessList_groups A.d_AccessList_groups ["self"] (fun vs H Q _ => ∃ p dx c o g t mv u s ku ks, vs = [.ref p] ∧ ALx A H p dx c o g t mv u s ku ks ∧ NewO (.dK ks) Q H) := by
  refine T.F_AccessList_groups.ok sc_AccessList_groups (fun vs H Q E h => ?_) (fun cdv A_ outer s_ H vs Q E hr h => ?_)
  · obtain ⟨p, dx, c, o, g, t, mv, u, s, ku, ks, rfl, _⟩ := h
    rfl
  · obtain ⟨p, dx, c, o, g, t, mv, u, s, ku, ks, rfl, h, q⟩ := h
    refine ⟨_, (pss_one (ps_ret (pe_callTy call_dictD (by rfl) T.b_dict (by decide +kernel) (pa_cons (pe_fld (pv 0) rfl) pa_nil)))), ?_⟩
    exact ⟨_, rfl, p, _, dx, _, _, rfl, h.ob, T.cl_AccessList, T.na_AccessList__groups, rfl, s, ks, rfl, .inl h.hs, q.all⟩
end
end K28
namespace K28
open PySem PySem.Spec PyProof.Rows L2 FR TL
open C8 (pss_cut pe_gc)
open StX (pe_callS2 pa_star)
section
variable {P : Program} {w : World} {K : PySem.W.Frag} {mg : Str → Option Value} {base : Heap} {A : Ads}
set_option pp.maxSteps 120
theorem ok__keys_in_order (T : Txt w K mg A) : FnOk P w K mg base CX0 1 A.f__keys_in_order A.d__keys_in_order ["value"] (fun vs H Q _ => ∃ a kvs ks, vs = [.ref a] ∧ H a = some (.dK kvs) ∧ kvs.map (·.1) = ks.map Sum.inr ∧ ks.length ≤ 6 ∧ ∀ ys, ys.Perm ks → sortedS ys = true → NewO (.lst (ys.map V.str)) Q H) := by
  refine T.F__keys_in_order.ok sc__keys_in_order (fun vs H Q E h => ?_) (fun cdv A_ outer s_ H vs Q E hr h => ?_)
  · obtain ⟨a, kvs, ks, rfl, _⟩ := h
    rfl
  · obtain ⟨a, kvs, ks, rfl, ha, hk, l6, q⟩ := h
    refine ⟨_, (pss_cons (ps_lock (ps_setLc (i := 1) (own := [("key", 2)]) (g := gName 2) rfl sc__keys_in_order.nd rfl rfl (sw_true rfl rfl rfl (by decide +kernel)) (pi_keys (pv 0)) (blkOk_by (own := [("key", 2)]) (N := N__keys_in_order) (sc := defScope s__keys_in_order) (by decide +kernel)) (fun _ _ _ _ _ => pg_name (i := 2) sc__keys_in_order.nd rfl (Or.inl rfl)) (fun _ _ _ _ _ => (pts_one (pt_val (pe_callB (call_isiK (K := K) rfl) (by rfl) T.b_isinstance (by decide +kernel) (pa_cons (pv 2) (pa_cons (pe_bltn (v := .ty "str") rfl T.b_str (by decide +kernel) rfl) pa_nil)))))) (fun _ _ _ _ _ => (pv 2))))
  (pss_one (ps_ret (pe_op op_catN (pe_callB cr_sortedS (by rfl) T.b_sorted (by decide +kernel) (pa_cons (pe_lock (pe_lc (own := [("key", 2)]) (g := gName 2) rfl sc__keys_in_order.nd (pi_keys (pv 0)) (blkOk_by (own := [("key", 2)]) (N := N__keys_in_order) (sc := defScope s__keys_in_order) (by decide +kernel)) (fun _ _ _ _ _ => pg_name (i := 2) sc__keys_in_order.nd rfl (Or.inl rfl)) (fun _ _ _ _ _ => (pts_one (pt_not (pt_val (pe_callB (call_isiK (K := K) rfl) (by rfl) T.b_isinstance (by decide +kernel) (pa_cons (pv 2) (pa_cons (pe_bltn (v := .ty "str") rfl T.b_str (by decide +kernel) rfl) pa_nil))))))) (fun _ _ _ _ _ => (pv 2)))) pa_nil)) (pe_callB cr_sortedS (by rfl) T.b_sorted (by decide +kernel) (pa_cons (pv 1) pa_nil)))))), ?_⟩
    have hl : kvs.length = ks.length := by simpa using congrArg List.length hk
    have key : ∀ {i : Nat} {k : L2.Key} {v : V}, kvs[i]? = some (k, v) → ∃ s, ks[i]? = some s ∧ k = Sum.inr s := fun {i k v} h => by
      have h1 : (kvs.map (·.1))[i]? = some k := by rw [List.getElem?_map, h]; rfl
      rw [hk, List.getElem?_map] at h1
      obtain ⟨s, h2, h3⟩ := Option.map_eq_some_iff.mp h1
      exact ⟨s, h2, h3.symm⟩
    refine ⟨a, _, ha, trivial, fun od => ?_⟩
    refine ⟨_, rfl, a, od, rfl, .inl ⟨kvs, upd_same, fun D hD => ?_⟩⟩
    have nD : D ≠ a := fun e => by rw [e, upd_same] at hD; cases hD
    refine lc_it walk_keys (fun i H1 => H1 = upd (upd H a (.frz od (.dK kvs))) D (.lst ((ks.take i).map V.str))) rfl (fun i H1 _ e => ?_) (fun i x H1 H2 hi e y => ?_) (fun H1 e => ?_)
    · subst e
      rw [upd_ne (Ne.symm nD), upd_same]
    · subst e
      obtain ⟨rfl, k, v, hkv, rfl⟩ := y
      obtain ⟨s, hs, rfl⟩ := key hkv
      walk_at "rd"
      refine ⟨_, upd_same, size_ok (by rw [List.length_map, List.length_take]; omega), ?_⟩
      rw [upd_again, List.take_add_one, hs, List.map_append]
      rfl
    · subst e
      rw [hl, List.take_length]
      refine ⟨by rw [upd_ne (Ne.symm nD), upd_same], ?_⟩
      have k1 : Keep [] H (upd (upd (upd H a (.frz od (.dK kvs))) D (.lst (ks.map V.str))) a (.dK kvs)) := keep_lock ha (keep_new hD)
      have hD1 : (upd (upd (upd H a (.frz od (.dK kvs))) D (.lst (ks.map V.str))) a (.dK kvs)) D = some (.lst (ks.map V.str)) := by rw [upd_ne nD, upd_same]
      generalize upd (upd (upd H a (.frz od (.dK kvs))) D (.lst (ks.map V.str))) a (.dK kvs) = H1 at k1 hD1 ⊢
      have ha1 := k1 _ _ ha (by simp)
      clear hD
      refine ⟨a, _, ha1, trivial, fun od2 => ?_⟩
      refine ⟨_, rfl, a, od2, rfl, .inl ⟨kvs, upd_same, fun D2 hD2 => ?_⟩⟩
      have nD2 : D2 ≠ a := fun e => by rw [e, upd_same] at hD2; cases hD2
      refine lc_it walk_keys (fun i H2 => H2 = upd (upd H1 a (.frz od2 (.dK kvs))) D2 (.lst [])) rfl (fun i H2 _ e => ?_) (fun i x H2 H3 hi e y => ?_) (fun H2 e => ?_)
      · subst e
        rw [upd_ne (Ne.symm nD2), upd_same]
      · subst e
        obtain ⟨rfl, k, v, hkv, rfl⟩ := y
        obtain ⟨s, hs, rfl⟩ := key hkv
        walk_at "rd"
        rfl
      · subst e
        refine ⟨by rw [upd_ne (Ne.symm nD2), upd_same], ?_⟩
        have k2 : Keep [] H1 (upd (upd (upd H1 a (.frz od2 (.dK kvs))) D2 (.lst [])) a (.dK kvs)) := keep_lock ha1 (keep_new hD2)
        have hD3 : (upd (upd (upd H1 a (.frz od2 (.dK kvs))) D2 (.lst [])) a (.dK kvs)) D2 = some (.lst []) := by rw [upd_ne nD2, upd_same]
        generalize upd (upd (upd H1 a (.frz od2 (.dK kvs))) D2 (.lst [])) a (.dK kvs) = H3 at k2 hD3 ⊢
        refine ⟨D2, [], rfl, .inl (.inl hD3), by decide, fun zs p4 pz _ n4 => ?_⟩
        obtain rfl : zs = [] := List.length_eq_zero_iff.mp pz.length_eq
        have k3 : Keep [] H1 (upd H3 p4 (.lst ([].map V.str))) := k2.trans (keep_new n4)
        have h4 : upd H3 p4 (.lst ([].map V.str)) p4 = some (.lst []) := upd_same
        generalize upd H3 p4 (.lst ([].map V.str)) = H4 at k3 h4 ⊢
        refine ⟨_, rfl, D, ks, rfl, .inl (.inl (k3 _ _ hD1 (by simp))), by omega, fun ys p5 py sy n5 => ?_⟩
        have k4 : Keep [] H (upd H4 p5 (.lst (ys.map V.str))) := (k1.trans k3).trans (keep_new n5)
        have h5 : upd H4 p5 (.lst (ys.map V.str)) p5 = some (.lst (ys.map V.str)) := upd_same
        have h4' : upd H4 p5 (.lst (ys.map V.str)) p4 = some (.lst []) := by rw [upd_ne (ne_of_none h4 n5)]; exact h4
        generalize upd H4 p5 (.lst (ys.map V.str)) = H5 at k4 h5 h4' ⊢
        have ly := py.length_eq
        refine ⟨p4, p5, _, _, rfl, rfl, h4', h5, size_le (by rw [List.length_map]; simp; omega), NewO.mk fun p6 H6 n6 k6 h6 => ?_⟩
        exact (q ys py sy).to p6 H6 (k4.free n6) (k4.trans k6) h6
def DT (kvs : List (L2.Key × V)) (m : Dm) : Prop := DV (fun x d => ∃ t, x = .str t ∧ (t, d) ∈ goodT) kvs m
theorem IsR.put {H : Hp} {D : Addr} {o o' : HO} {x : V} {d : Int} (r : IsR A H x d) (h : H D = some o) (n : ∀ C dx fs, o ≠ .ins C dx fs) : IsR A (upd H D o') x d := by
  obtain ⟨a, dx, rfl, ha, r⟩ := r
  exact ⟨a, dx, rfl, by rw [upd_ne (ne_of ha h fun z => n _ _ _ z.symm)]; exact ha, r⟩
theorem ok__named_rights (T : Txt w K mg A) : FnOk P w K mg base CX0 6 A.f__named_rights A.d__named_rights ["value"] (fun vs H Q _ => vs = [.non] ∧ NewO (.dK []) Q H) := by
  refine T.F__named_rights.ok sc__named_rights (fun vs H Q E h => ?_) (fun cdv A_ outer s_ H vs Q E hr h => ?_)
  · obtain ⟨rfl, _⟩ := h
    rfl
  · obtain ⟨rfl, q⟩ := h
    refine ⟨_, (pss_cons (ps_if (pt_cmpR op_isN (pv 0) pe_non (nomark _)) (pss_one (ps_ret pe_dnewN)) pss_nil)
  (pss_cons (ps_if (PW.pt (pw_or (pt_not (pt_val (pe_callB call_isi (by rfl) T.b_isinstance (by decide +kernel) (pa_cons (pv 0) (pa_cons (pe_bltn (v := .ty "dict") rfl T.b_dict (by decide +kernel) rfl) pa_nil))))) (pw_or1 (pt_cmpR op_gt (pe_callB call_lenD (by rfl) T.b_len PySem.boot_len (pa_cons (pv 0) pa_nil)) (pe_gc rfl T.c_MOST_NAMED) (nomark _))))) (pss_one ps_never) pss_nil)
  (pss_cons (ps_set (i := 1) sc__named_rights.nd rfl (.inl rfl) pe_dnewN)
  (pss_cons (ps_for PassesOwn.never rfl (pi_list (pe_call (ok__keys_in_order T) (hr.mono (by decide)) (by rfl) T.g__keys_in_order T.F__keys_in_order.kp T.B__keys_in_order .nil pass0 (pa_cons (pv 0) pa_nil))) (pg_name (i := 2) sc__named_rights.nd rfl (.inl rfl)) (pss_cons (ps_if (pt_not (pt_val (pe_call (ok_is_user_name T) (hr.mono (by decide)) (by rfl) T.g_is_user_name T.F_is_user_name.kp T.B_is_user_name .nil pass0 (pa_cons (pv 2) pa_nil)))) (pss_one ps_never) pss_nil)
  (pss_one (ps_asg (pe_call (ok_as_rights T) (hr.mono (by decide)) (by rfl) T.g_as_rights T.F_as_rights.kp T.B_as_rights .nil pass0 (pa_cons (pe_dget (hu_of hr) (pv 0) (pv 2) (fun _ _ => rfl)) pa_nil)) (pg_sub (pv 1) (pv 2) (set_dict (hu_of hr)))))))
  (pss_one (ps_ret (pv 1))))))), ?_⟩
    refine ⟨_, rfl, rfl, _, rfl, ?_⟩
    refine ifT (decide_eq_true rfl) ?_
    exact q
end
end K28
namespace K28
open PySem PySem.Spec PyProof.Rows L2 FR TL
open C8 (pss_cut pe_gc)
open StX (pe_callS2 pa_star)
section
variable {P : Program} {w : World} {K : PySem.W.Frag} {mg : Str → Option Value} {base : Heap} {A : Ads}
set_option pp.maxSteps 120
theorem sd0 : sd [] = [] := sd_eq (m := []) (ys := []) (List.Perm.refl _) rfl
def Fso (fs : List (Str × V)) : Prop := fs = [] ∨ ∃ v r, fs = ((Str.ofString "_owner"), v) :: r
theorem rg_ne {A : Ads} {dx C dx' : Addr} {d : Int} {fs : List (Str × V)} (h : Fso fs) : RgO A dx d ≠ .ins C dx' fs := fun e => by
  unfold RgO at e
  injection e with _ _ e
  rcases h with rfl | ⟨v, r, rfl⟩
  · cases e
  · injection e with e _
    have e := congrArg Prod.fst e
    exact absurd (show Str.ofString "_digit" = Str.ofString "_owner" from e) (by decide +kernel)
theorem IsR.putP {H : Hp} {p C dx : Addr} {fs : List (Str × V)} {o' : HO} {x : V} {d : Int} (r : IsR A H x d) (h : H p = some (.ins C dx fs)) (n : Fso fs) : IsR A (upd H p o') x d := by
  obtain ⟨a, dx2, rfl, ha, r⟩ := r
  exact ⟨a, dx2, rfl, by rw [upd_ne (ne_of ha h (rg_ne n))]; exact ha, r⟩
theorem ok_AccessList__first_mask (T : Txt w K mg A) : FnOk P w K mg base CX0 8 A.f_AccessList__first_mask A.d_AccessList__first_mask ["self"] (fun vs H Q _ => ∃ p dx fs u s, vs = [.ref p] ∧ H p = some (.ins A.C_AccessList dx fs) ∧ fs.lookup (Str.ofString "_users") = some (.ref u) ∧ fs.lookup (Str.ofString "_groups") = some (.ref s) ∧ H u = some (.dK []) ∧ H s = some (.dK []) ∧ ∀ H', Keep [] H H' → Q .non H') := by
  refine T.F_AccessList__first_mask.ok sc_AccessList__first_mask (fun vs H Q E h => ?_) (fun cdv A_ outer s_ H vs Q E hr h => ?_)
  · obtain ⟨p, dx, fs, u, s, rfl, _⟩ := h
    rfl
  · obtain ⟨p, dx, fs, u, s, rfl, hp, fu, fs', hu, hs, q⟩ := h
    refine ⟨_, (pss_cons (ps_set (i := 1) sc_AccessList__first_mask.nd rfl (.inl rfl) (pe_op op_catN (pe_callTy (call_lVals rfl) (by rfl) T.b_list (by decide +kernel) (pa_cons (pe_bm0 PySem.F.plainAttrs_dict PySem.F.slot_dict_values PySem.F.type_dict_values mt_valuesK (pe_fld (pv 0) rfl)) pa_nil)) (pe_callTy (call_lVals rfl) (by rfl) T.b_list (by decide +kernel) (pa_cons (pe_bm0 PySem.F.plainAttrs_dict PySem.F.slot_dict_values PySem.F.type_dict_values mt_valuesK (pe_fld (pv 0) rfl)) pa_nil))))
  (pss_one (ps_ret (pe_ifExp (pt_truth (pv 1) (by intro _; rfl)) pe_nev pe_non)))), ?_⟩
    refine ⟨_, rfl, p, _, dx, _, _, rfl, hp, T.cl_AccessList, T.na_AccessList__users, fu, ?_⟩
    refine ⟨.inr (.inr (.inl ⟨rfl, .inl ⟨_, hu⟩⟩)), u, _, rfl, rfl, hu, fun p1 n1 => ?_⟩
    have hu1 : upd H p1 (valuesO p1 u) u = some (.dK []) := by rw [upd_ne (ne_of_none hu n1)]; exact hu
    have k1 : Keep [] H (upd H p1 (valuesO p1 u)) := keep_new n1
    refine ⟨p1, u, _, rfl, upd_same, hu1, NewO.mk fun p2 H2 n2 k2 h2 => ?_⟩
    have k12 := k1.trans k2
    refine ⟨_, rfl, p, _, dx, _, _, rfl, k12 _ _ hp (by simp), T.cl_AccessList, T.na_AccessList__groups, fs', ?_⟩
    have hs2 := k12 _ _ hs (by simp)
    refine ⟨.inr (.inr (.inl ⟨rfl, .inl ⟨_, hs2⟩⟩)), s, _, rfl, rfl, hs2, fun p3 n3 => ?_⟩
    have hs3 : upd H2 p3 (valuesO p3 s) s = some (.dK []) := by rw [upd_ne (ne_of_none hs2 n3)]; exact hs2
    have k3 : Keep [] H2 (upd H2 p3 (valuesO p3 s)) := keep_new n3
    refine ⟨p3, s, _, rfl, upd_same, hs3, NewO.mk fun p4 H4 n4 k4 h4 => ?_⟩
    have k34 := k3.trans k4
    refine ⟨p2, p4, _, _, rfl, rfl, k34 _ _ h2 (by simp), h4, Nat.zero_le _, NewO.mk fun p5 H5 n5 k5 h5 => ?_⟩
    refine ⟨_, rfl, false, ?_, ?_⟩
    · exact .inl ⟨[], .inl (.inl h5), rfl⟩
    refine ifF rfl ?_
    exact q H5 ((k12.trans k34).trans k5)
theorem putF_new {f : Str} {v : V} : ∀ {fs : List (Str × V)}, (∀ q ∈ fs, q.1 ≠ f) → putF f v fs = fs ++ [(f, v)]
  | [], _ => rfl
  | (g, x) :: r, h => by
    have ne : g ≠ f := h (g, x) List.mem_cons_self
    show (if g = f then _ else _) = _
    rw [if_neg ne, putF_new fun q hq => h q (List.mem_cons_of_mem _ hq)]
    rfl
def spInitA (A : Ads) : Sp := fun vs H Q _ => ∃ p dx to_ tg tt c, vs = [.ref p, .str to_, .str tg, .str tt, .non, .non, .non] ∧ H p = some (.ins A.C_AccessList dx []) ∧ (to_, AcR.ow c) ∈ goodT ∧ (tg, c.gr) ∈ goodT ∧ (tt, c.ot) ∈ goodT ∧
  c.us = [] ∧ c.gs = [] ∧ c.ma = none ∧ AccOk c ∧ ∀ H', Keep [p] H H' → AL A H' p c → (sd c.us).Perm c.us → (sd c.gs).Perm c.gs → Q .non H'
theorem ok_AccessList___init__ (T : Txt w K mg A) : FnOk P w K mg base CX0 9 A.f_AccessList___init__ A.d_AccessList___init__ ["self", "owner", "group", "other", "users", "groups", "mask"] (spInitA A) := by
  refine (T.F_AccessList___init__.ok (CX := CX0) sc_AccessList___init__ (fun vs H Q E h => ?_) (fun cdv A_ outer s_ H vs Q E hr h => ?_))
  · obtain ⟨p, dx, to_, tg, tt, c, rfl, _⟩ := h
    rfl
  · obtain ⟨p, dx, to_, tg, tt, c, rfl, hp, go, gg, gt, eu, es, hma, ok, q⟩ := h
    refine ⟨_, (pss_cons (ps_fld (pv 0) (pe_call (ok_as_rights T) (hr.mono (by decide)) (by rfl) T.g_as_rights T.F_as_rights.kp T.B_as_rights .nil pass0 (pa_cons (pv 1) pa_nil)) rfl)
  (pss_cons (ps_fld (pv 0) (pe_call (ok_as_rights T) (hr.mono (by decide)) (by rfl) T.g_as_rights T.F_as_rights.kp T.B_as_rights .nil pass0 (pa_cons (pv 2) pa_nil)) rfl)
  (pss_cons (ps_fld (pv 0) (pe_call (ok_as_rights T) (hr.mono (by decide)) (by rfl) T.g_as_rights T.F_as_rights.kp T.B_as_rights .nil pass0 (pa_cons (pv 3) pa_nil)) rfl)
  (pss_cons (ps_fld (pv 0) (pe_call (ok__named_rights T) (hr.mono (by decide)) (by rfl) T.g__named_rights T.F__named_rights.kp T.B__named_rights .nil pass0 (pa_cons (pv 4) pa_nil)) rfl)
  (pss_cons (ps_fld (pv 0) (pe_call (ok__named_rights T) (hr.mono (by decide)) (by rfl) T.g__named_rights T.F__named_rights.kp T.B__named_rights .nil pass0 (pa_cons (pv 5) pa_nil)) rfl)
  (pss_one (ps_fld (pv 0) (pe_ifExp (pt_cmpR op_isN (pv 6) pe_non (nomark _)) (pe_meth0 (pv 0) T.cl_AccessList T.me_AccessList__first_mask (ok_AccessList__first_mask T) (hr.mono (by decide)) T.B_AccessList__first_mask .nil pass0) (pe_call (ok_as_rights T) (hr.mono (by decide)) (by rfl) T.g_as_rights T.F_as_rights.kp T.B_as_rights .nil pass0 (pa_cons (pv 6) pa_nil))) rfl))))))), ?_⟩
    refine ⟨_, rfl, _, _, rfl, .inr ⟨_, rfl, go, fun o dro H1 no ndo k1 h1 => ?_⟩⟩
    have hp1 := k1 _ _ hp (by simp)
    refine ⟨_, rfl, p, _, dx, _, rfl, hp1, T.cl_AccessList, T.na_AccessList__owner, by decide, ?_⟩
    have i0 : Fso ([] : List (Str × V)) := .inl rfl
    have cons : ∀ v r, Fso ((Str.ofString "_owner", v) :: r) := fun v r => .inr ⟨v, r, rfl⟩
    have o2 : IsR A (upd H1 p (.ins A.C_AccessList dx (putF (Str.ofString "_owner") (.ref o) []))) (.ref o) c.ow := IsR.putP ⟨o, dro, rfl, h1, good_in go⟩ hp1 i0
    have K2 : Keep [p] H (upd H1 p (.ins A.C_AccessList dx (putF (Str.ofString "_owner") (.ref o) []))) := fun b u e nb => by
      rw [upd_ne (by simpa using nb)]
      exact k1 _ _ e (by simp)
    have hp2 : (upd H1 p (.ins A.C_AccessList dx (putF (Str.ofString "_owner") (.ref o) []))) p = some (.ins A.C_AccessList dx [(Str.ofString "_owner", .ref o)]) := upd_same
    generalize upd H1 p (.ins A.C_AccessList dx (putF (Str.ofString "_owner") (.ref o) [])) = H2 at o2 K2 hp2 ⊢
    clear k1 h1 hp1
    -- group
    refine ⟨_, rfl, _, _, rfl, .inr ⟨_, rfl, gg, fun g drg H3 ng ndg k3 h3 => ?_⟩⟩
    have hp3 := k3 _ _ hp2 (by simp)
    refine ⟨_, rfl, p, _, dx, _, rfl, hp3, T.cl_AccessList, T.na_AccessList__group, by show 1 < 1000; decide, ?_⟩
    have o4 : IsR A (upd H3 p (.ins A.C_AccessList dx (putF (Str.ofString "_group") (.ref g) [(Str.ofString "_owner", .ref o)]))) (.ref o) c.ow := (IsR.keep o2 k3).putP hp3 (cons _ _)
    have g4 : IsR A (upd H3 p (.ins A.C_AccessList dx (putF (Str.ofString "_group") (.ref g) [(Str.ofString "_owner", .ref o)]))) (.ref g) c.gr := IsR.putP ⟨g, drg, rfl, h3, good_in gg⟩ hp3 (cons _ _)
    have K4 : Keep [p] H (upd H3 p (.ins A.C_AccessList dx (putF (Str.ofString "_group") (.ref g) [(Str.ofString "_owner", .ref o)]))) := fun b u e nb => by
      rw [upd_ne (by simpa using nb)]
      exact k3 _ _ (K2 _ _ e nb) (by simp)
    have hp4 : (upd H3 p (.ins A.C_AccessList dx (putF (Str.ofString "_group") (.ref g) [(Str.ofString "_owner", .ref o)]))) p = some (.ins A.C_AccessList dx [(Str.ofString "_owner", .ref o), (Str.ofString "_group", .ref g)]) := upd_same
    generalize upd H3 p (.ins A.C_AccessList dx (putF (Str.ofString "_group") (.ref g) [(Str.ofString "_owner", .ref o)])) = H4 at o4 g4 K4 hp4 ⊢
    clear k3 h3 hp3 o2 K2 hp2
    -- other
    refine ⟨_, rfl, _, _, rfl, .inr ⟨_, rfl, gt, fun t drt H5 nt ndt k5 h5 => ?_⟩⟩
    have hp5 := k5 _ _ hp4 (by simp)
    refine ⟨_, rfl, p, _, dx, _, rfl, hp5, T.cl_AccessList, T.na_AccessList__other, by show 2 < 1000; decide, ?_⟩
    have o6 : IsR A (upd H5 p (.ins A.C_AccessList dx (putF (Str.ofString "_other") (.ref t) [(Str.ofString "_owner", .ref o), (Str.ofString "_group", .ref g)]))) (.ref o) c.ow := (IsR.keep o4 k5).putP hp5 (cons _ _)
    have g6 : IsR A (upd H5 p (.ins A.C_AccessList dx (putF (Str.ofString "_other") (.ref t) [(Str.ofString "_owner", .ref o), (Str.ofString "_group", .ref g)]))) (.ref g) c.gr := (IsR.keep g4 k5).putP hp5 (cons _ _)
    have t6 : IsR A (upd H5 p (.ins A.C_AccessList dx (putF (Str.ofString "_other") (.ref t) [(Str.ofString "_owner", .ref o), (Str.ofString "_group", .ref g)]))) (.ref t) c.ot := IsR.putP ⟨t, drt, rfl, h5, good_in gt⟩ hp5 (cons _ _)
    have K6 : Keep [p] H (upd H5 p (.ins A.C_AccessList dx (putF (Str.ofString "_other") (.ref t) [(Str.ofString "_owner", .ref o), (Str.ofString "_group", .ref g)]))) := fun b u e nb => by
      rw [upd_ne (by simpa using nb)]
      exact k5 _ _ (K4 _ _ e nb) (by simp)
    have hp6 : (upd H5 p (.ins A.C_AccessList dx (putF (Str.ofString "_other") (.ref t) [(Str.ofString "_owner", .ref o), (Str.ofString "_group", .ref g)]))) p = some (.ins A.C_AccessList dx [(Str.ofString "_owner", .ref o), (Str.ofString "_group", .ref g), (Str.ofString "_other", .ref t)]) := by
      rw [upd_same]
      have e1 : Str.ofString "_owner" ≠ Str.ofString "_other" := by decide +kernel
      have e2 : Str.ofString "_group" ≠ Str.ofString "_other" := by decide +kernel
      simp [putF, e1, e2]
    generalize upd H5 p (.ins A.C_AccessList dx (putF (Str.ofString "_other") (.ref t) [(Str.ofString "_owner", .ref o), (Str.ofString "_group", .ref g)])) = H6 at o6 g6 t6 K6 hp6 ⊢
    clear k5 h5 hp5 o4 g4 K4 hp4
    -- users
    obtain ⟨ku, hku⟩ : ∃ ku : List (L2.Key × V), ku = [] := ⟨_, rfl⟩
    refine ⟨_, rfl, rfl, NewO.mk fun u H7 nu k7 hu7 => ?_⟩
    have dvu : DV (IsR A H7) ku (sd c.us) := by rw [hku, eu, sd0]; exact .nil
    have pu : (sd c.us).Perm c.us := by rw [eu, sd0]
    rw [← hku] at hu7
    have hp7 := k7 _ _ hp6 (by simp)
    refine ⟨_, rfl, p, _, dx, _, rfl, hp7, T.cl_AccessList, T.na_AccessList__users, by show 3 < 1000; decide, ?_⟩
    rw [putF_new (f := Str.ofString "_users") (fs := [(Str.ofString "_owner", .ref o), (Str.ofString "_group", .ref g), (Str.ofString "_other", .ref t)]) (by simp; decide +kernel)]
    have nup : u ≠ p := ne_of hu7 hp7 (fun z => by cases z)
    have step : ∀ {F : HO}, (∀ x d, IsR A H7 x d → IsR A (upd H7 p F) x d) := fun {F} x d r => IsR.putP r hp7 (cons _ _)
    have hu8 : ∀ F, upd H7 p F u = some (.dK ku) := fun F => by rw [upd_ne nup]; exact hu7
    have K8 : ∀ F, Keep [p] H (upd H7 p F) := fun F b x e nb => by
      rw [upd_ne (by simpa using nb)]
      exact k7 _ _ (K6 _ _ e nb) (by simp)
    have hp8 : upd H7 p (.ins A.C_AccessList dx ([(Str.ofString "_owner", .ref o), (Str.ofString "_group", .ref g), (Str.ofString "_other", .ref t)] ++ [(Str.ofString "_users", .ref u)])) p = _ := upd_same
    have o8 := step (F := .ins A.C_AccessList dx ([(Str.ofString "_owner", .ref o), (Str.ofString "_group", .ref g), (Str.ofString "_other", .ref t)] ++ [(Str.ofString "_users", .ref u)])) _ _ (IsR.keep o6 k7)
    have g8 := step (F := .ins A.C_AccessList dx ([(Str.ofString "_owner", .ref o), (Str.ofString "_group", .ref g), (Str.ofString "_other", .ref t)] ++ [(Str.ofString "_users", .ref u)])) _ _ (IsR.keep g6 k7)
    have t8 := step (F := .ins A.C_AccessList dx ([(Str.ofString "_owner", .ref o), (Str.ofString "_group", .ref g), (Str.ofString "_other", .ref t)] ++ [(Str.ofString "_users", .ref u)])) _ _ (IsR.keep t6 k7)
    have dv8 := dvu.imp (step (F := .ins A.C_AccessList dx ([(Str.ofString "_owner", .ref o), (Str.ofString "_group", .ref g), (Str.ofString "_other", .ref t)] ++ [(Str.ofString "_users", .ref u)])))
    have hu8 := hu8 (.ins A.C_AccessList dx ([(Str.ofString "_owner", .ref o), (Str.ofString "_group", .ref g), (Str.ofString "_other", .ref t)] ++ [(Str.ofString "_users", .ref u)]))
    have K8 := K8 (.ins A.C_AccessList dx ([(Str.ofString "_owner", .ref o), (Str.ofString "_group", .ref g), (Str.ofString "_other", .ref t)] ++ [(Str.ofString "_users", .ref u)]))
    generalize upd H7 p (.ins A.C_AccessList dx ([(Str.ofString "_owner", .ref o), (Str.ofString "_group", .ref g), (Str.ofString "_other", .ref t)] ++ [(Str.ofString "_users", .ref u)])) = H8 at hp8 o8 g8 t8 dv8 hu8 K8 ⊢
    clear step k7 hp7 hu7 dvu nup o6 g6 t6 K6 hp6
    -- groups
    obtain ⟨ks, hks⟩ : ∃ ks : List (L2.Key × V), ks = [] := ⟨_, rfl⟩
    refine ⟨_, rfl, rfl, NewO.mk fun s H9 ns k9 hs9 => ?_⟩
    have dvs : DV (IsR A H9) ks (sd c.gs) := by rw [hks, es, sd0]; exact .nil
    have ps : (sd c.gs).Perm c.gs := by rw [es, sd0]
    rw [← hks] at hs9
    have hp9 := k9 _ _ hp8 (by simp)
    refine ⟨_, rfl, p, _, dx, _, rfl, hp9, T.cl_AccessList, T.na_AccessList__groups, by show 4 < 1000; decide, ?_⟩
    rw [putF_new (f := Str.ofString "_groups") (by simp; decide +kernel)]
    have nsp : s ≠ p := ne_of hs9 hp9 (fun z => by cases z)
    obtain ⟨fs5, hF5⟩ : ∃ fs5 : List (Str × V), fs5 = [(Str.ofString "_owner", .ref o), (Str.ofString "_group", .ref g), (Str.ofString "_other", .ref t)] ++ [(Str.ofString "_users", .ref u)] ++ [(Str.ofString "_groups", .ref s)] := ⟨_, rfl⟩
    rw [← hF5]
    have c5 : Fso fs5 := by rw [hF5]; exact cons _ _
    have step : ∀ x d, IsR A H9 x d → IsR A (upd H9 p (.ins A.C_AccessList dx fs5)) x d := fun x d r => IsR.putP r hp9 (cons _ _)
    have hp10 : upd H9 p (.ins A.C_AccessList dx fs5) p = some (.ins A.C_AccessList dx fs5) := upd_same
    have o10 := step _ _ (IsR.keep o8 k9)
    have g10 := step _ _ (IsR.keep g8 k9)
    have t10 := step _ _ (IsR.keep t8 k9)
    have dv10 := (dv8.imp fun _ _ r => IsR.keep r k9).imp step
    have ds10 := dvs.imp step
    have hu10 : upd H9 p (.ins A.C_AccessList dx fs5) u = some (.dK ku) := by rw [upd_ne (ne_of (k9 _ _ hu8 (by simp)) hp9 (fun z => by cases z))]; exact k9 _ _ hu8 (by simp)
    have hs10 : upd H9 p (.ins A.C_AccessList dx fs5) s = some (.dK ks) := by rw [upd_ne nsp]; exact hs9
    have K10 : Keep [p] H (upd H9 p (.ins A.C_AccessList dx fs5)) := fun b x e nb => by
      rw [upd_ne (by simpa using nb)]
      exact k9 _ _ (K8 _ _ e nb) (by simp)
    generalize upd H9 p (.ins A.C_AccessList dx fs5) = H10 at hp10 o10 g10 t10 dv10 ds10 hu10 hs10 K10 ⊢
    clear step nsp k9 hp9 hs9 dvs o8 g8 t8 dv8 hu8 K8 hp8
    have fin : ∀ (H11 : Hp) (mv' : V), Keep [] H10 H11 → ((mv' = .non ∧ c.ma = none) ∨ ∃ d, c.ma = some d ∧ IsR A H11 mv' d) → Q .non (upd H11 p (.ins A.C_AccessList dx (putF (Str.ofString "_mask") mv' fs5))) := fun H11 mv' k11 hm' => by
      have hp11 := k11 _ _ hp10 (by simp)
      have eF : putF (Str.ofString "_mask") mv' fs5 = [(Str.ofString "_owner", .ref o), (Str.ofString "_group", .ref g), (Str.ofString "_other", .ref t), (Str.ofString "_users", .ref u), (Str.ofString "_groups", .ref s), (Str.ofString "_mask", mv')] := by
        rw [putF_new (by rw [hF5]; simp; decide +kernel), hF5]
        rfl
      have step : ∀ x d, IsR A H10 x d → IsR A (upd H11 p (.ins A.C_AccessList dx (putF (Str.ofString "_mask") mv' fs5))) x d := fun x d r => IsR.putP (IsR.keep r k11) hp11 c5
      refine q _ (fun b x e nb => ?_) ⟨dx, .ref o, .ref g, .ref t, mv', u, s, ku, ks, by rw [upd_same, eF], step _ _ o10, step _ _ g10, step _ _ t10, ?_, ?_, dv10.imp step, ds10.imp step, ?_⟩ pu ps
      · rw [upd_ne (by simpa using nb)]
        exact k11 _ _ (K10 _ _ e nb) (by simp)
      · rw [upd_ne (ne_of (k11 _ _ hu10 (by simp)) hp11 (fun z => by cases z))]
        exact k11 _ _ hu10 (by simp)
      · rw [upd_ne (ne_of (k11 _ _ hs10 (by simp)) hp11 (fun z => by cases z))]
        exact k11 _ _ hs10 (by simp)
      · rcases hm' with h | ⟨d, e, r⟩
        · exact .inl h
        · exact .inr ⟨d, e, IsR.putP r hp11 c5⟩
    have l5 : fs5.length < 1000 := by rw [hF5]; show 5 < 1000; decide
    subst hku
    subst hks
    refine ⟨_, rfl, rfl, _, rfl, ?_⟩
    refine ifT (decide_eq_true rfl) ?_
    refine ⟨_, rfl, p, dx, _, rfl, hp10, by rw [hF5]; rfl, ?_⟩
    refine ⟨p, dx, fs5, u, s, rfl, hp10, by rw [hF5]; rfl, by rw [hF5]; rfl, hu10, hs10, fun H11 k11 => ?_⟩
    refine ⟨_, rfl, p, _, dx, _, rfl, k11 _ _ hp10 (by simp), T.cl_AccessList, T.na_AccessList__mask, l5, ?_⟩
    exact fin H11 .non k11 (.inl ⟨rfl, hma⟩)
end
end K28
namespace K28
open PySem PySem.Spec PyProof.Rows L2 FR TL
open C8 (pss_cut pe_gc)
open StX (pe_callS2 pa_star)
section
variable {P : Program} {w : World} {K : PySem.W.Frag} {mg : Str → Option Value} {base : Heap} {A : Ads}
set_option pp.maxSteps 120
def root : Str := Str.ofString "root"
def JO (A : Ads) (dj p : Addr) : HO := .ins A.C_Judge dj [(Str.ofString "_people", .ref p)]
/-- the way out: an exception of the class at C that holds v -/
def Out (C : Addr) (v : V) (E : XK) (H : Hp) : Prop := ∀ (d : Addr) (H' : Hp), Keep [] H H' → H' d = some (.xd [(("value" : Str), v)]) → E (.ref C) (some d) H'
theorem Out.mono {C : Addr} {v : V} {E : XK} {H H' : Hp} (h : Out C v E H) (k : Keep [] H H') : Out C v E H' := fun d H2 k2 e => h d H2 (k.trans k2) e
theorem Out.new {C : Addr} {v : V} {E : XK} {H : Hp} (h : Out C v E H) : ∀ d, H d = none → E (.ref C) (some d) (upd H d (.xd [(("value" : Str), v)])) := fun d hd => h d _ (keep_new hd) upd_same
def OutN (C : Addr) (v : V) (E : XK) (H : Hp) : Prop := ∀ (d : Addr) (H' : Hp), Keep [] H H' → H' d = some (.xd [(("name" : Str), v)]) → E (.ref C) (some d) H'
theorem OutN.mono {C : Addr} {v : V} {E : XK} {H H' : Hp} (h : OutN C v E H) (k : Keep [] H H') : OutN C v E H' := fun d H2 k2 e => h d H2 (k.trans k2) e
theorem OutN.new {C : Addr} {v : V} {E : XK} {H : Hp} (h : OutN C v E H) : ∀ d, H d = none → E (.ref C) (some d) (upd H d (.xd [(("name" : Str), v)])) := fun d hd => h d _ (keep_new hd) upd_same
def us0 : List Str := [Str.ofString "ann", Str.ofString "bob", Str.ofString "staff"]
def gs0 : List Str := [Str.ofString "chess", Str.ofString "guests", Str.ofString "staff"]
theorem us0_m : m0.map (·.1) = us0 := rfl
def isU (v : V) : Bool := us0.any fun b => isT v b
def isO (v : V) : Bool := isT v root || isU v
def isG (v : V) : Bool := isT v root || gs0.any fun b => isT v b
theorem Odd.kt {H : Hp} {v : V} {e : PyData} (h : Odd H v e) (T : Txt w K mg A) : PySem.W.kitOne K (.type (tyN e)) (.ref A.C_Rights) = some false ∧ PySem.W.kitOne K (.type (tyN e)) (.ref A.C_AccessList) = some false ∧ PySem.W.kitOne K (.type (tyN e)) (.ref A.C_People) = some false := by
  obtain ⟨h, _⟩ := h
  cases h
  · exact ⟨T.kt_Rights_NoneType, T.kt_AccessList_NoneType, T.kt_People_NoneType⟩
  · exact ⟨T.kt_Rights_bool, T.kt_AccessList_bool, T.kt_People_bool⟩
  · exact ⟨T.kt_Rights_int, T.kt_AccessList_int, T.kt_People_int⟩
  · exact ⟨T.kt_Rights_str, T.kt_AccessList_str, T.kt_People_str⟩
  · exact ⟨T.kt_Rights_list, T.kt_AccessList_list, T.kt_People_list⟩
  · exact ⟨T.kt_Rights_tuple, T.kt_AccessList_tuple, T.kt_People_tuple⟩
  · exact ⟨T.kt_Rights_dict, T.kt_AccessList_dict, T.kt_People_dict⟩
/-- what `in` asks for, of a thing -/
theorem Odd.has {H : Hp} {v : V} {e : PyData} (h : Odd H v e) : (∃ s, v = .str s ∧ decide (s ∈ m0.map (·.1)) = isU v) ∨ ((∃ t, TyX K H v (.type t) ∧ kitB t "str" = some false) ∧ isU v = false) := by
  have ty := h.ty (K := K)
  obtain ⟨hs, hB⟩ := h
  have no : isS e = false → (∀ b, v ≠ .str b) → (∃ t, TyX K H v (.type t) ∧ kitB t "str" = some false) ∧ isU v = false := fun n1 n2 => by
    refine ⟨⟨tyN e, ty, by rw [kit_str, n1]⟩, ?_⟩
    rw [isU, List.any_eq_false]
    exact fun b _ => by rw [isT, decide_eq_false (n2 b)]; exact Bool.false_ne_true
  cases hs with
  | str s =>
    refine .inl ⟨s, rfl, ?_⟩
    rw [us0_m, isU, Bool.eq_iff_iff, List.any_eq_true, decide_eq_true_eq]
    exact ⟨fun m => ⟨s, m, decide_eq_true rfl⟩, fun ⟨b, m, e⟩ => (V.str.inj (of_decide_eq_true e)) ▸ m⟩
  | _ => exact .inr (no rfl fun _ z => by cases z)
theorem ok_is_owner (T : Txt w K mg A) : FnOk P w K mg base CX0 3 A.f_is_owner A.d_is_owner ["people", "value"] (fun vs H Q _ => ∃ p v e, vs = [.ref p, v] ∧ Pp A.C_People H p m0 gs0 ∧ Odd H v e ∧ Q (.bl (isO v)) H) := by
  refine T.F_is_owner.ok sc_is_owner (fun vs H Q E h => ?_) (fun cdv A_ outer s_ H vs Q E hr h => ?_)
  · obtain ⟨p, v, e, rfl, _⟩ := h
    rfl
  · obtain ⟨p, v, e, rfl, hp, he, q⟩ := h
    refine ⟨_, (pss_one (ps_ret (pe_or (pe_cmpR (op_eqT (u65 hr)) (pv 1) pe_str (nomark _)) (pe_one (pe_cmpR (op_inI T.me_People___contains__.at_ T.me_People___contains__.fn ((ok_People___contains__ T).raw T.B_People___contains__ .nil) (hr.mono (by decide)) pass0) (pv 1) (pv 0) rfl))))), ?_⟩
    refine ⟨_, rfl, root, _, rfl, he.eqt (by decide +kernel), _, rfl, ?_⟩
    rw [isO] at q
    cases c : isT v root with
    | true =>
      rw [c, Bool.true_or] at q
      refine ifT rfl ?_
      exact q
    | false =>
      rw [c, Bool.false_or] at q
      refine ifF rfl ?_
      obtain ⟨d, g, dx, kvs, hP⟩ := id hp
      refine ⟨_, rfl, _, rfl, p, dx, _, rfl, hP.ob, p, m0, gs0, _, rfl, hp, ?_⟩
      rcases he.has (K := K) with ⟨s, es, e2⟩ | ⟨⟨t, ty, kt⟩, e2⟩
      · refine .inl ⟨s, es, _, rfl, ?_⟩
        rw [e2]
        exact q
      · refine .inr ⟨t, ty, kt, _, rfl, ?_⟩
        rw [e2] at q
        exact q
theorem ok_is_owner_group (T : Txt w K mg A) : FnOk P w K mg base CX0 3 A.f_is_owner_group A.d_is_owner_group ["people", "value"] (fun vs H Q _ => ∃ p v e, vs = [.ref p, v] ∧ Pp A.C_People H p m0 gs0 ∧ Odd H v e ∧ ∀ H', Keep [] H H' → Q (.bl (isG v)) H') := by
  refine T.F_is_owner_group.ok sc_is_owner_group (fun vs H Q E h => ?_) (fun cdv A_ outer s_ H vs Q E hr h => ?_)
  · obtain ⟨p, v, e, rfl, _⟩ := h
    rfl
  · obtain ⟨p, v, e, rfl, hp, he, q⟩ := h
    refine ⟨_, (pss_one (ps_ret (pe_or (pe_cmpR (op_eqT (u65 hr)) (pv 1) pe_str (nomark _)) (pe_one (pe_cmpR (op_inT (u65 hr)) (pv 1) (pe_meth0 (pv 0) T.cl_People T.me_People_groups (ok_People_groups T) (hr.mono (by decide)) T.B_People_groups .nil pass0) rfl))))), ?_⟩
    refine ⟨_, rfl, root, _, rfl, he.eqt (by decide +kernel), _, rfl, ?_⟩
    have q1 : ∀ {H'}, Keep [] H H' → Q (.bl (isT v root || gs0.any fun b => isT v b)) H' := fun k => q _ k
    cases c : isT v root with
    | true =>
      rw [c, Bool.true_or] at q1
      refine ifT rfl ?_
      exact q1 Keep.refl
    | false =>
      rw [c, Bool.false_or] at q1
      refine ifF rfl ?_
      obtain ⟨d, g, dx, kvs, hP⟩ := id hp
      refine ⟨_, rfl, _, rfl, p, dx, _, rfl, hP.ob, rfl, p, m0, gs0, rfl, hp, NewO.mk fun l H1 nl k1 h1 => ?_⟩
      exact ⟨l, gs0, _, rfl, .inl (.inl h1), (he.keep k1).int (by decide +kernel), q1 k1⟩
/-- what a judge is asked about -/
structure Ask (A : Ads) (H : Hp) (j p : Addr) (M : Mp) (gs : List Str) (al : Addr) (c : AcR) (u ho bd : Str) : Prop where
  jo : ∃ dj, H j = some (JO A dj p)
  pp : Pp A.C_People H p M gs
  al : AL A H al c
  u : u ∈ M.map (·.1)
  h : ho = root ∨ ho ∈ M.map (·.1)
  b : bd = root ∨ bd ∈ gs
  pu : (sd c.us).Perm c.us
  pg : (sd c.gs).Perm c.gs
  ok : AccOk c
theorem Ask.keep {H H' : Hp} {j p : Addr} {M : Mp} {gs : List Str} {al : Addr} {c : AcR} {u ho bd : Str} (h : Ask A H j p M gs al c u ho bd) (k : Keep [] H H') : Ask A H' j p M gs al c u ho bd := by
  obtain ⟨dj, hj⟩ := h.jo
  exact ⟨⟨dj, k _ _ hj (by simp)⟩, h.pp.keep k, h.al.keep k, h.u, h.h, h.b, h.pu, h.pg, h.ok⟩
/-- the judge of the three people -/
def Jd (A : Ads) (H : Hp) (j p : Addr) : Prop := (∃ dj, H j = some (JO A dj p)) ∧ Pp A.C_People H p m0 gs0
theorem Jd.keep {H H' : Hp} {j p : Addr} (h : Jd A H j p) (k : Keep [] H H') : Jd A H' j p := ⟨h.1.imp fun _ e => k _ _ e (by simp), h.2.keep k⟩
def Th (H : Hp) (v : V) (b r : Bool) : Prop := (∃ e, Odd H v e) ∧ b = r
theorem Th.keep {H H' : Hp} {v : V} {b r : Bool} (h : Th H v b r) (k : Keep [] H H') : Th H' v b r := ⟨h.1.imp fun _ e => e.keep k, h.2⟩
def LA (A : Ads) (H : Hp) (v : V) : Prop := ∃ al c, v = .ref al ∧ AL A H al c ∧ (sd c.us).Perm c.us ∧ (sd c.gs).Perm c.gs ∧ AccOk c
theorem LA.keep {H H' : Hp} {v : V} (h : LA A H v) (k : Keep [] H H') : LA A H' v := by
  obtain ⟨al, c, e, a, r⟩ := h
  exact ⟨al, c, e, a.keep k, r⟩
/-- the first place of the five that is wrong (5: none), and what stands there -/
inductive First (A : Ads) (H : Hp) (t0 t1 t2 t3 t4 : V) : Nat → V → Prop
  | b0 : Th H t0 (isU t0) false → First A H t0 t1 t2 t3 t4 0 t0
  | b1 : Th H t0 (isU t0) true → Th H t1 (isO t1) false → First A H t0 t1 t2 t3 t4 1 t1
  | b2 : Th H t0 (isU t0) true → Th H t1 (isO t1) true → Th H t2 (isG t2) false → First A H t0 t1 t2 t3 t4 2 t2
  | b3 : Th H t0 (isU t0) true → Th H t1 (isO t1) true → Th H t2 (isG t2) true → (∃ e, Odd H t3 e) → First A H t0 t1 t2 t3 t4 3 t3
  | b4 : Th H t0 (isU t0) true → Th H t1 (isO t1) true → Th H t2 (isG t2) true → LA A H t3 → (∃ e, Odd H t4 e ∧ letD e = none) → First A H t0 t1 t2 t3 t4 4 t4
  | ok : Th H t0 (isU t0) true → Th H t1 (isO t1) true → Th H t2 (isG t2) true → LA A H t3 → (∃ t d, t4 = .str t ∧ (t, d) ∈ goodT) → First A H t0 t1 t2 t3 t4 5 .non
theorem First.keep {H H' : Hp} {t0 t1 t2 t3 t4 b : V} {k : Nat} (h : First A H t0 t1 t2 t3 t4 k b) (kp : Keep [] H H') : First A H' t0 t1 t2 t3 t4 k b := by
  cases h with
  | b0 a => exact .b0 (a.keep kp)
  | b1 a b => exact .b1 (a.keep kp) (b.keep kp)
  | b2 a b c => exact .b2 (a.keep kp) (b.keep kp) (c.keep kp)
  | b3 a b c d => exact .b3 (a.keep kp) (b.keep kp) (c.keep kp) (d.imp fun _ e => e.keep kp)
  | b4 a b c d e => exact .b4 (a.keep kp) (b.keep kp) (c.keep kp) (d.keep kp) (e.imp fun _ e => ⟨e.1.keep kp, e.2⟩)
  | ok a b c d e => exact .ok (a.keep kp) (b.keep kp) (c.keep kp) (d.keep kp) e
structure Ends (A : Ads) (k : Nat) (b : V) (E : XK) (H : Hp) : Prop where
  e01 : k = 0 ∨ k = 1 → OutN A.C_UnknownUser b E H
  e2 : k = 2 → OutN A.C_UnknownGroup b E H
  e3 : k = 3 → Out A.C_InvalidList b E H
theorem isT_str {v : V} {b : Str} (h : isT v b = true) : v = .str b := of_decide_eq_true h
theorem isU_str {v : V} (h : isU v = true) : ∃ s, v = .str s ∧ s ∈ m0.map (·.1) := by
  obtain ⟨b, hb, e⟩ := List.any_eq_true.mp h
  exact ⟨b, isT_str e, hb⟩
theorem isO_str {v : V} (h : isO v = true) : ∃ s, v = .str s ∧ (s = root ∨ s ∈ m0.map (·.1)) := by
  rcases Bool.or_eq_true_iff.mp h with e | e
  · exact ⟨_, isT_str e, .inl rfl⟩
  · obtain ⟨s, e, m⟩ := isU_str e
    exact ⟨s, e, .inr m⟩
theorem isG_str {v : V} (h : isG v = true) : ∃ s, v = .str s ∧ (s = root ∨ s ∈ gs0) := by
  rcases Bool.or_eq_true_iff.mp h with e | e
  · exact ⟨_, isT_str e, .inl rfl⟩
  · obtain ⟨b, hb, e⟩ := List.any_eq_true.mp e
    exact ⟨b, isT_str e, .inr hb⟩
theorem First.ask {H : Hp} {j p : Addr} {t0 t1 t2 t3 t4 b : V} {k : Nat} (hj : Jd A H j p) (h : First A H t0 t1 t2 t3 t4 k b) (h4 : 4 ≤ k) : ∃ al c u ho bd, t0 = .str u ∧ t1 = .str ho ∧ t2 = .str bd ∧ t3 = .ref al ∧ Ask A H j p m0 gs0 al c u ho bd := by
  have f : Th H t0 (isU t0) true → Th H t1 (isO t1) true → Th H t2 (isG t2) true → LA A H t3 → ∃ al c u ho bd, t0 = .str u ∧ t1 = .str ho ∧ t2 = .str bd ∧ t3 = .ref al ∧ Ask A H j p m0 gs0 al c u ho bd := fun h0 h1 h2 h3 => by
    obtain ⟨u, eu, mu⟩ := isU_str h0.2
    obtain ⟨ho, eo, mo⟩ := isO_str h1.2
    obtain ⟨bd, eb, mb⟩ := isG_str h2.2
    obtain ⟨al, c, el, ha, pu, pg, ok⟩ := h3
    exact ⟨al, c, u, ho, bd, eu, eo, eb, el, hj.1, hj.2, ha, mu, mo, mb, pu, pg, ok⟩
  cases h with
  | b4 a b c d e => exact f a b c d
  | ok a b c d e => exact f a b c d
  | b0 _ => exact absurd h4 (by decide)
  | b1 _ _ => exact absurd h4 (by decide)
  | b2 _ _ _ => exact absurd h4 (by decide)
  | b3 _ _ _ _ => exact absurd h4 (by decide)
theorem First.g0 {H : Hp} {t0 t1 t2 t3 t4 b : V} {k : Nat} (h : First A H t0 t1 t2 t3 t4 k b) : (∃ e, Odd H t0 e) ∧ ((isU t0 = false ∧ k = 0 ∧ b = t0) ∨ isU t0 = true) := by
  cases h with
  | b0 a => exact ⟨a.1, .inl ⟨a.2, rfl, rfl⟩⟩
  | b1 a _ => exact ⟨a.1, .inr a.2⟩
  | b2 a _ _ => exact ⟨a.1, .inr a.2⟩
  | b3 a _ _ _ => exact ⟨a.1, .inr a.2⟩
  | b4 a _ _ _ _ => exact ⟨a.1, .inr a.2⟩
  | ok a _ _ _ _ => exact ⟨a.1, .inr a.2⟩
theorem ft {b : Bool} {p : Prop} (h : b = false) (h' : b = true) : p := by rw [h] at h'; cases h'
theorem First.g1 {H : Hp} {t0 t1 t2 t3 t4 b : V} {k : Nat} (h : First A H t0 t1 t2 t3 t4 k b) (u : isU t0 = true) : (∃ e, Odd H t1 e) ∧ ((isO t1 = false ∧ k = 1 ∧ b = t1) ∨ isO t1 = true) := by
  cases h with
  | b0 a => exact ft a.2 u
  | b1 _ a => exact ⟨a.1, .inl ⟨a.2, rfl, rfl⟩⟩
  | b2 _ a _ => exact ⟨a.1, .inr a.2⟩
  | b3 _ a _ _ => exact ⟨a.1, .inr a.2⟩
  | b4 _ a _ _ _ => exact ⟨a.1, .inr a.2⟩
  | ok _ a _ _ _ => exact ⟨a.1, .inr a.2⟩
theorem First.g2 {H : Hp} {t0 t1 t2 t3 t4 b : V} {k : Nat} (h : First A H t0 t1 t2 t3 t4 k b) (u : isU t0 = true) (o : isO t1 = true) : (∃ e, Odd H t2 e) ∧ ((isG t2 = false ∧ k = 2 ∧ b = t2) ∨ isG t2 = true) := by
  cases h with
  | b0 a => exact ft a.2 u
  | b1 _ a => exact ft a.2 o
  | b2 _ _ a => exact ⟨a.1, .inl ⟨a.2, rfl, rfl⟩⟩
  | b3 _ _ a _ => exact ⟨a.1, .inr a.2⟩
  | b4 _ _ a _ _ => exact ⟨a.1, .inr a.2⟩
  | ok _ _ a _ _ => exact ⟨a.1, .inr a.2⟩
theorem First.g3 {H : Hp} {t0 t1 t2 t3 t4 b : V} {k : Nat} (h : First A H t0 t1 t2 t3 t4 k b) (u : isU t0 = true) (o : isO t1 = true) (g : isG t2 = true) : ((∃ e, Odd H t3 e) ∧ k = 3 ∧ b = t3) ∨ (LA A H t3 ∧ 4 ≤ k) := by
  cases h with
  | b0 a => exact ft a.2 u
  | b1 _ a => exact ft a.2 o
  | b2 _ _ a => exact ft a.2 g
  | b3 _ _ _ a => exact .inl ⟨a, rfl, rfl⟩
  | b4 _ _ _ a _ => exact .inr ⟨a, by decide⟩
  | ok _ _ _ a _ => exact .inr ⟨a, by decide⟩
def spCheck (A : Ads) : Sp := fun vs H Q E => ∃ j p t0 t1 t2 t3 t4 k b, vs = [.ref j, t0, t1, t2, t3] ∧ Jd A H j p ∧ First A H t0 t1 t2 t3 t4 k b ∧ Ends A k b E H ∧ (4 ≤ k → ∀ H', Keep [] H H' → Q .non H')
theorem ok_Judge__check (T : Txt w K mg A) : FnOk P w K mg base (L2.CX P w) 4 A.f_Judge__check A.d_Judge__check ["self", "user", "owner", "group", "access"] (spCheck A) := by
  refine T.F_Judge__check.okX sc_Judge__check (fun vs H Q E h => ?_) (fun cdv A_ outer s_ H vs Q E hr h => ?_)
  · obtain ⟨j, p, t0, t1, t2, t3, t4, k, b, rfl, _⟩ := h
    rfl
  · obtain ⟨j, p, t0, t1, t2, t3, t4, k, b, rfl, ⟨⟨dj, hj⟩, hp⟩, fi, en, q⟩ := h
    refine ⟨_, (pss_cons (ps_if (pt_cmpR (op_notInI T.me_People___contains__.at_ T.me_People___contains__.fn ((ok_People___contains__ T).raw T.B_People___contains__ .nil) (hr.mono (by decide)) pass0) (pv 1) (pe_fld (pv 0) rfl) rfl) (pss_one (ps_raiseNam rfl T.low_UnknownUser hr (takes_of rfl rfl rfl rfl) (pa_cons (pv 1) pa_nil))) pss_nil)
  (pss_cons (ps_if (pt_not (pt_val (pe_call (ok_is_owner T) (hr.mono (by decide)) (by rfl) T.g_is_owner T.F_is_owner.kp T.B_is_owner .nil pass0 (pa_cons (pe_fld (pv 0) rfl) (pa_cons (pv 2) pa_nil))))) (pss_one (ps_raiseNam rfl T.low_UnknownUser hr (takes_of rfl rfl rfl rfl) (pa_cons (pv 2) pa_nil))) pss_nil)
  (pss_cons (ps_if (pt_not (pt_val (pe_call (ok_is_owner_group T) (hr.mono (by decide)) (by rfl) T.g_is_owner_group T.F_is_owner_group.kp T.B_is_owner_group .nil pass0 (pa_cons (pe_fld (pv 0) rfl) (pa_cons (pv 3) pa_nil))))) (pss_one (ps_raiseNam rfl T.low_UnknownGroup hr (takes_of rfl rfl rfl rfl) (pa_cons (pv 3) pa_nil))) pss_nil)
  (pss_one (ps_if (pt_not (pt_val (pe_callB (call_isA T.in_AccessList) (by rfl) T.b_isinstance (by decide +kernel) (pa_cons (pv 4) (pa_cons (pe_gc rfl T.c_AccessList) pa_nil))))) (pss_one (ps_raiseLow rfl T.low_InvalidList hr (takes_of rfl rfl rfl rfl) (pa_cons (pv 4) pa_nil))) pss_nil))))), ?_⟩
    obtain ⟨d, g, dx, kvs, hP⟩ := id hp
    refine ⟨_, rfl, _, rfl, j, _, dj, _, _, rfl, hj, T.cl_Judge, T.na_Judge__people, rfl, p, dx, _, rfl, hP.ob, ?_⟩
    refine ⟨p, m0, gs0, _, rfl, hp, ?_⟩
    obtain ⟨⟨e0, he0⟩, ⟨u0, rfl, rfl⟩ | u0⟩ := fi.g0
    · rcases he0.has (K := K) with ⟨s, es, e2⟩ | ⟨⟨t, ty, kt⟩, e2⟩
      · refine .inl ⟨s, es, _, rfl, ?_⟩
        rw [e2, u0]
        refine ⟨_, rfl, ?_⟩
        refine ifT rfl ?_
        walk_at "rd"
        exact (en.e01 (.inl rfl)).new
      · refine .inr ⟨t, ty, kt, _, rfl, ?_⟩
        refine ⟨_, rfl, ?_⟩
        refine ifT rfl ?_
        walk_at "rd"
        exact (en.e01 (.inl rfl)).new
    obtain ⟨s0, rfl, hs0⟩ := isU_str u0
    refine .inl ⟨s0, rfl, _, rfl, ?_⟩
    rw [decide_eq_true hs0]
    refine ⟨_, rfl, ?_⟩
    refine ifF rfl ?_
    obtain ⟨⟨e1, he1⟩, hc1⟩ := fi.g1 u0
    refine ⟨_, rfl, j, _, dj, _, _, rfl, hj, T.cl_Judge, T.na_Judge__people, rfl, _, rfl, p, t1, e1, rfl, hp, he1, ?_⟩
    rcases hc1 with ⟨o1, rfl, rfl⟩ | o1
    · rw [o1]
      refine ⟨_, rfl, ?_⟩
      refine ifT rfl ?_
      walk_at "rd"
      exact (en.e01 (.inr rfl)).new
    rw [o1]
    refine ⟨_, rfl, ?_⟩
    refine ifF rfl ?_
    obtain ⟨⟨e2, he2⟩, hc2⟩ := fi.g2 u0 o1
    refine ⟨_, rfl, j, _, dj, _, _, rfl, hj, T.cl_Judge, T.na_Judge__people, rfl, _, rfl, p, t2, e2, rfl, hp, he2, fun H1 k1 => ?_⟩
    rcases hc2 with ⟨o2, rfl, rfl⟩ | o2
    · rw [o2]
      refine ⟨_, rfl, ?_⟩
      refine ifT rfl ?_
      walk_at "rd"
      exact ((en.e2 rfl).mono k1).new
    rw [o2]
    refine ⟨_, rfl, ?_⟩
    refine ifF rfl ?_
    rcases fi.g3 u0 o1 o2 with ⟨⟨e3, he3⟩, rfl, rfl⟩ | ⟨⟨al, c, rfl, hal, _⟩, k4⟩
    · refine ⟨_, rfl, .inr ⟨_, _, _, _, _, rfl, .own _, (he3.keep k1).ty, (he3.kt T).2.1, ?_⟩⟩
      refine ⟨false, rfl, ?_⟩
      refine ifT rfl ?_
      walk_at "rd"
      exact ((en.e3 rfl).mono k1).new
    · obtain ⟨dx2, o, g2, t, mv, u2, s2, ku, ks, hA⟩ := hal.keep k1
      refine ⟨_, rfl, .inl ⟨al, dx2, _, rfl, hA.ob, ?_⟩⟩
      refine ⟨_, rfl, ?_⟩
      refine ifF rfl ?_
      exact q k4 H1 k1
def spAsD (A : Ads) : Sp := fun vs H Q E => ∃ v, vs = [v] ∧ ((∃ t d, v = .str t ∧ (t, d) ∈ goodT ∧ Q (.int d) H) ∨ ((∃ e, Odd H v e ∧ letD e = none) ∧ Out A.C_InvalidRights v E H))
theorem ok_as_digit (T : Txt w K mg A) : FnOk P w K mg base (L2.CX P w) 3 A.f_as_digit A.d_as_digit ["value"] (spAsD A) := by
  refine T.F_as_digit.okX sc_as_digit (fun vs H Q E h => ?_) (fun cdv A_ outer s_ H vs Q E hr h => ?_)
  · obtain ⟨v, rfl, _⟩ := h
    rfl
  · obtain ⟨v, rfl, h⟩ := h
    refine ⟨_, (pss_cons (ps_if (pt_val (pe_callB (call_isA T.in_Rights) (by rfl) T.b_isinstance (by decide +kernel) (pa_cons (pv 0) (pa_cons (pe_gc rfl T.c_Rights) pa_nil)))) (pss_one (ps_ret (pe_prop (pv 0) T.cl_Rights T.pr_Rights_digit (ok_Rights_digit T) (hr.mono (by decide)) T.B_Rights_digit .nil pass0 rfl))) pss_nil)
  (pss_cons (ps_if (pt_not (pt_val (pe_call (ok__is_letters T) (hr.mono (by decide)) (by rfl) T.g__is_letters T.F__is_letters.kp T.B__is_letters .nil pass0 (pa_cons (pv 0) pa_nil)))) (pss_one (ps_raiseLow rfl T.low_InvalidRights hr (takes_of rfl rfl rfl rfl) (pa_cons (pv 0) pa_nil))) pss_nil)
  (pss_one (ps_ret (pe_ix (ix_kdictK (K := K) (w := w) rfl rfl) (pe_gc rfl T.c_DIGITS) (pv 0) (fun _ _ => rfl)))))), ?_⟩
    rcases h with ⟨t, d, rfl, g, q⟩ | ⟨⟨e, he, hl⟩, q⟩
    · refine ⟨_, rfl, .inr ⟨_, _, _, _, _, rfl, .own _, .base (.str _), T.kt_Rights_str, ?_⟩⟩
      refine ⟨false, rfl, ?_⟩
      refine ifF rfl ?_
      refine ⟨_, rfl, _, rfl, .inl ⟨t, d, rfl, g, ?_⟩⟩
      refine ⟨_, rfl, ?_⟩
      refine ifF rfl ?_
      exact ⟨_, rfl, _, _, _, rfl, rfl, dg_at T g, q⟩
    · refine ⟨_, rfl, .inr ⟨_, _, _, _, _, rfl, .own _, he.ty, (he.kt T).1, ?_⟩⟩
      refine ⟨false, rfl, ?_⟩
      refine ifF rfl ?_
      refine ⟨_, rfl, _, rfl, .inr ⟨e, he, hl, ?_⟩⟩
      refine ⟨_, rfl, ?_⟩
      refine ifT rfl ?_
      walk_at "rd"
      exact q.new
/-- no People -/
def NoP (K : PySem.W.Frag) (A : Ads) (H : Hp) (x : V) : Prop := ∃ t, TyX K H x (.type t) ∧ PySem.W.kitOne K (.type t) (.ref A.C_People) = some false
def spJInit (K : PySem.W.Frag) (A : Ads) : Sp := fun vs H Q E => ∃ j dj x, vs = [.ref j, x] ∧ H j = some (.ins A.C_Judge dj []) ∧ ((∃ p, x = .ref p ∧ Pp A.C_People H p m0 gs0 ∧ ∀ H', Keep [j] H H' → H' j = some (JO A dj p) → Q .non H') ∨ (NoP K A H x ∧ Out A.C_InvalidPeople x E H))
theorem ok_Judge___init__ (T : Txt w K mg A) : FnOk P w K mg base (L2.CX P w) 2 A.f_Judge___init__ A.d_Judge___init__ ["self", "people"] (spJInit K A) := by
  refine T.F_Judge___init__.okX sc_Judge___init__ (fun vs H Q E h => ?_) (fun cdv A_ outer s_ H vs Q E hr h => ?_)
  · obtain ⟨j, dj, x, rfl, _⟩ := h
    rfl
  · obtain ⟨j, dj, x, rfl, hj, h⟩ := h
    refine ⟨_, (pss_cons (ps_if (pt_not (pt_val (pe_callB (call_isA T.in_People) (by rfl) T.b_isinstance (by decide +kernel) (pa_cons (pv 1) (pa_cons (pe_gc rfl T.c_People) pa_nil))))) (pss_one (ps_raiseLow rfl T.low_InvalidPeople hr (takes_of rfl rfl rfl rfl) (pa_cons (pv 1) pa_nil))) pss_nil)
  (pss_one (ps_fld (pv 0) (pv 1) rfl))), ?_⟩
    rcases h with ⟨p, rfl, ⟨d, g, dx, kvs, hp⟩, q⟩ | ⟨⟨t, ty, kt⟩, q⟩
    · refine ⟨_, rfl, .inl ⟨p, dx, _, rfl, hp.ob, ?_⟩⟩
      refine ⟨_, rfl, ?_⟩
      refine ifF rfl ?_
      refine ⟨_, rfl, _, rfl, j, _, dj, _, rfl, hj, T.cl_Judge, T.na_Judge__people, by decide, ?_⟩
      exact q _ keep_upd upd_same
    · refine ⟨_, rfl, .inr ⟨_, _, _, _, _, rfl, .own _, ty, kt, ?_⟩⟩
      refine ⟨_, rfl, ?_⟩
      refine ifT rfl ?_
      walk_at "rd"
      exact q.new
end
end K28
namespace K28
open PySem PySem.Spec PyProof.Rows L2 FR TL
open C8 (pss_cut pe_gc)
open StX (pe_callS2 pa_star)
abbrev Tr := List (Str × Str × Int)
def TV (H : Hp) (v : V) (e : Str × Str × Int) : Prop := ∃ t, v = .ref t ∧ H t = some (.tup [.str e.1, .str e.2.1, .int e.2.2])
def TL (H : Hp) (l : Addr) (ts : Tr) : Prop := ∃ vs, H l = some (.lst vs) ∧ Paired (TV H) vs ts
theorem TV.keep {H H' : Hp} {v : V} {e : Str × Str × Int} (h : TV H v e) (k : Keep [] H H') : TV H' v e := by
  obtain ⟨t, rfl, h⟩ := h
  exact ⟨t, rfl, k _ _ h (by simp)⟩
theorem TV.put {H : Hp} {D : Addr} {o o' : HO} {v : V} {e : Str × Str × Int} (r : TV H v e) (h : H D = some o) (n : ∀ ys, o ≠ .tup ys) : TV (upd H D o') v e := by
  obtain ⟨q, rfl, hq⟩ := r
  exact ⟨q, rfl, by rw [upd_ne (ne_of hq h fun z => n _ z.symm)]; exact hq⟩
def maskI (c : AcR) : Int := c.ma.getD 7
noncomputable def namedOf (held : List Str) (c : AcR) (m : Int) : Tr := ((srt (c.gs.map (·.1))).filter fun n => decide (n ∈ held)).map fun n => (Str.ofString "named", n, Builtin.bitAnd (dd c.gs n) m)
def groupOf (held : List Str) (c : AcR) (m : Int) (bd : Str) : Tr := if bd ∈ held then [(Str.ofString "group", Str.ofString "", Builtin.bitAnd c.gr m)] else []
noncomputable def caseM (held : List Str) (c : AcR) (m : Int) (u ho bd : Str) : Tr :=
  if u = ho then [(Str.ofString "owner", Str.ofString "", c.ow)]
  else match dget c.us u with
    | some d => [(Str.ofString "user", u, Builtin.bitAnd d m)]
    | none => if groupOf held c m bd ++ namedOf held c m = [] then [(Str.ofString "other", Str.ofString "", c.ot)] else groupOf held c m bd ++ namedOf held c m
noncomputable def caseOf (held : List Str) (c : AcR) (u ho bd : Str) : Tr := caseM held c (maskI c) u ho bd
theorem case_own {held : List Str} {c : AcR} {m : Int} {u ho bd : Str} (h : u = ho) : caseM held c m u ho bd = [(Str.ofString "owner", Str.ofString "", c.ow)] := if_pos h
theorem case_user {held : List Str} {c : AcR} {m : Int} {u ho bd : Str} {d : Int} (h : u ≠ ho) (e : dget c.us u = some d) : caseM held c m u ho bd = [(Str.ofString "user", u, Builtin.bitAnd d m)] := by
  unfold caseM
  rw [if_neg h, e]
theorem case_rest {held : List Str} {c : AcR} {m : Int} {u ho bd : Str} (h : u ≠ ho) (e : dget c.us u = none) : caseM held c m u ho bd = if groupOf held c m bd ++ namedOf held c m = [] then [(Str.ofString "other", Str.ofString "", c.ot)] else groupOf held c m bd ++ namedOf held c m := by
  unfold caseM
  rw [if_neg h, e]
theorem paired_app {α β : Type} {R : α → β → Prop} {a a' : List α} {b b' : List β} (h : Paired R a b) (h' : Paired R a' b') : Paired R (a ++ a') (b ++ b') := by
  induction h with
  | nil => exact h'
  | cons x t ih => exact .cons x ih
theorem paired_snoc {α β : Type} {R : α → β → Prop} {a : List α} {b : List β} {x : α} {y : β} (h : Paired R a b) (r : R x y) : Paired R (a ++ [x]) (b ++ [y]) := paired_app h (.cons r .nil)
theorem filt_snoc {ys : List Str} {i : Nat} {u : Str} {p : Str → Bool} (h : ys[i]? = some u) : (ys.take (i + 1)).filter p = (ys.take i).filter p ++ if p u = true then [u] else [] := by
  rw [List.take_add_one, h]
  show ((ys.take i ++ [u]).filter p) = _
  rw [List.filter_append, List.filter_cons]
  congr 1
theorem one_TL {H0 H1 H2 : Hp} {t l : Addr} {a b : Str} {d : Int} (h1 : H1 t = some (.tup [.str a, .str b, .int d])) (k2 : Keep [] H1 H2) (h2 : H2 l = some (.lst [.ref t])) : TL H2 l [(a, b, d)] := ⟨_, h2, .cons ⟨t, rfl, k2 _ _ h1 (by simp)⟩ .nil⟩
section
variable {P : Program} {w : World} {K : PySem.W.Frag} {mg : Str → Option Value} {base : Heap} {A : Ads}
set_option pp.maxSteps 120
def spFit (A : Ads) : Sp := fun vs H Q _ => ∃ j p M gs al c u ho bd, vs = [.ref p, .str u, .str ho, .str bd, .ref al] ∧ Ask A H j p M gs al c u ho bd ∧ ∀ l H', H l = none → Keep [] H H' → TL H' l (caseOf (mget M u) c u ho bd) → Q (.ref l) H'
theorem ok__fitting (T : Txt w K mg A) : FnOk P w K mg base CX0 4 A.f__fitting A.d__fitting ["people", "user", "owner", "group", "access"] (spFit A) := by
  refine T.F__fitting.ok sc__fitting (fun vs H Q E h => ?_) (fun cdv A_ outer s_ H vs Q E hr h => ?_)
  · obtain ⟨j, p, M, gs, al, c, u, ho, bd, rfl, _⟩ := h
    rfl
  · obtain ⟨j, p, M, gs, al, c, u, ho, bd, rfl, a, q⟩ := h
    refine ⟨_, (pss_cons (ps_if (pt_cmpR op_eq (pv 1) (pv 2) (nomark _)) (pss_one (ps_ret (pe_lstS (pa_cons (pe_tupN (pa_cons pe_str (pa_cons pe_str (pa_cons (pe_prop (pe_prop (pv 4) T.cl_AccessList T.pr_AccessList_owner (ok_AccessList_owner T) (hr.mono (by decide)) T.B_AccessList_owner .nil pass0 rfl) T.cl_Rights T.pr_Rights_digit (ok_Rights_digit T) (hr.mono (by decide)) T.B_Rights_digit .nil pass0 rfl) pa_nil)))) pa_nil)))) pss_nil)
  (pss_cons (ps_set (i := 5) sc__fitting.nd rfl (.inr rfl) (pe_ifExp (pt_cmpR op_isN (pe_prop (pv 4) T.cl_AccessList T.pr_AccessList_mask (ok_AccessList_mask T) (hr.mono (by decide)) T.B_AccessList_mask .nil pass0 rfl) pe_non (nomark _)) (pe_gc rfl T.c_ALL_DIGIT) (pe_prop (pe_prop (pv 4) T.cl_AccessList T.pr_AccessList_mask (ok_AccessList_mask T) (hr.mono (by decide)) T.B_AccessList_mask .nil pass0 rfl) T.cl_Rights T.pr_Rights_digit (ok_Rights_digit T) (hr.mono (by decide)) T.B_Rights_digit .nil pass0 rfl)))
  (pss_cons (ps_set (i := 6) sc__fitting.nd rfl (.inl rfl) (pe_meth0 (pv 4) T.cl_AccessList T.me_AccessList_users (ok_AccessList_users T) (hr.mono (by decide)) T.B_AccessList_users .nil pass0))
  (pss_cons (ps_if (pt_cmp (pc_din (hu_of hr) (pv 1) (pv 6))) (pss_one (ps_ret (pe_lstS (pa_cons (pe_tupN (pa_cons pe_str (pa_cons (pv 1) (pa_cons (pe_op op_and (pe_prop (pe_dget (hu_of hr) (pv 6) (pv 1) (fun _ _ => rfl)) T.cl_Rights T.pr_Rights_digit (ok_Rights_digit T) (hr.mono (by decide)) T.B_Rights_digit .nil pass0 rfl) (pv 5)) pa_nil)))) pa_nil)))) pss_nil)
  (pss_cons (ps_set (i := 7) sc__fitting.nd rfl (.inr rfl) (pe_meth (pv 0) T.cl_People T.me_People_groups_of (ok_People_groups_of T) (hr.mono (by decide)) T.B_People_groups_of .nil pass0 (pa_cons (pv 1) pa_nil)))
  (pss_cons (ps_set (i := 8) sc__fitting.nd rfl (.inr rfl) (pe_meth0 (pv 4) T.cl_AccessList T.me_AccessList_groups (ok_AccessList_groups T) (hr.mono (by decide)) T.B_AccessList_groups .nil pass0))
  (pss_cons (ps_set (i := 9) sc__fitting.nd rfl (.inl rfl) (pe_ifExp (pt_cmpR op_in_seq (pv 3) (pv 7) rfl) (pe_lstS (pa_cons (pe_tupN (pa_cons pe_str (pa_cons pe_str (pa_cons (pe_op op_and (pe_prop (pe_prop (pv 4) T.cl_AccessList T.pr_AccessList_group (ok_AccessList_group T) (hr.mono (by decide)) T.B_AccessList_group .nil pass0 rfl) T.cl_Rights T.pr_Rights_digit (ok_Rights_digit T) (hr.mono (by decide)) T.B_Rights_digit .nil pass0 rfl) (pv 5)) pa_nil)))) pa_nil)) (pe_lstS pa_nil)))
  (pss_cons (ps_set (i := 9) sc__fitting.nd rfl (.inl rfl) (pe_op op_catN (pv 9) (pe_lc (own := [("name", 10)]) (g := gName 10) rfl sc__fitting.nd (pi_list (pe_callB (call_sortedD rfl) (by rfl) T.b_sorted (by decide +kernel) (pa_cons (pv 8) pa_nil))) (blkOk_by (own := [("name", 10)]) (N := N__fitting) (sc := defScope s__fitting) (by decide +kernel)) (fun _ _ _ _ _ => pg_name (i := 10) sc__fitting.nd rfl (Or.inl rfl)) (fun _ _ _ _ _ => (pts_one (pt_cmpR (op_in_seqK (K := K) rfl) (pv 10) (pv 7) rfl))) (fun _ _ _ _ _ => (pe_tupN (pa_cons pe_str (pa_cons (pv 10) (pa_cons (pe_op op_and (pe_prop (pe_dget (hu_of hr) (pv 8) (pv 10) (fun _ _ => rfl)) T.cl_Rights T.pr_Rights_digit (ok_Rights_digit T) (hr.mono (by decide)) T.B_Rights_digit .nil pass0 rfl) (pv 5)) pa_nil))))))))
  (pss_one (ps_ret (pe_ifExp (pt_truth (pv 9) (by intro _; rfl)) (pv 9) (pe_lstS (pa_cons (pe_tupN (pa_cons pe_str (pa_cons pe_str (pa_cons (pe_prop (pe_prop (pv 4) T.cl_AccessList T.pr_AccessList_other (ok_AccessList_other T) (hr.mono (by decide)) T.B_AccessList_other .nil pass0 rfl) T.cl_Rights T.pr_Rights_digit (ok_Rights_digit T) (hr.mono (by decide)) T.B_Rights_digit .nil pass0 rfl) pa_nil)))) pa_nil))))))))))))), ?_⟩
    obtain ⟨dxA, oA, gA, tA, mv, uA, sA, ku, ks, hA⟩ := a.al
    obtain ⟨ro, dro, eo, hro, o0, o1⟩ := hA.ho
    obtain ⟨rg, drg, eg, hrg, g0, g1⟩ := hA.hg
    obtain ⟨rt, drt, et, hrt, t0, t1⟩ := hA.ht
    subst eo eg et
    refine ⟨_, rfl, _, rfl, rfl, _, rfl, ?_⟩
    by_cases c1 : u = ho
    · refine ifT (decide_eq_true (by rw [c1])) ?_
      unfold caseOf at q
      rw [case_own c1] at q
      walk_at "rd"
      refine ⟨al, dxA, _, rfl, hA.ob, al, dxA, c, _, _, _, _, _, _, _, _, rfl, hA, ?_⟩
      refine ⟨ro, dro, _, rfl, hro, _, c.ow, rfl, hA.ho, ?_⟩
      refine ⟨(show 3 ≤ sizeLine by decide), NewO.mk fun t1_ H1 n1 k1 h1 => ?_⟩
      refine ⟨(show 1 ≤ sizeLine by decide), NewS.mk fun l2 H2 n2 s2 k2 h2 => ?_⟩
      exact q l2 H2 (k1.free n2) (k1.trans k2) (one_TL (H0 := H) h1 k2 h2)
    · refine ifF (decide_eq_false fun z => c1 (V.str.inj z)) ?_
      obtain ⟨m, em, mok⟩ : ∃ m, maskI c = m ∧ ((mv = .non ∧ m = 7) ∨ IsR A H mv m) := by
        rcases hA.hm with ⟨e1, e2⟩ | ⟨d, e1, r⟩
        · exact ⟨7, by unfold maskI; rw [e2]; rfl, .inl ⟨e1, rfl⟩⟩
        · exact ⟨d, by unfold maskI; rw [e1]; rfl, .inr r⟩
      unfold caseOf at q
      rw [em] at q
      have main : ∀ F : VK, F (.int m) H → (tIf (tTest (tOp (fun x y H Q => y = V.non ∧ Q (V.bl (decide (x = V.non))) H) (tProp A.C_AccessList (fun vs H Q x => ∃ p dx c o g t mv u s ku ks, vs = [V.ref p] ∧ ALx A H p dx c o g t mv u s ku ks ∧ Q mv H) [] E0 (tVar 4)) (tC V.non))) (tC (V.int 7)) (tProp A.C_Rights (spDig A) [] E0 (tProp A.C_AccessList (fun vs H Q x => ∃ p dx c o g t mv u s ku ks, vs = [V.ref p] ∧ ALx A H p dx c o g t mv u s ku ks ∧ Q mv H) [] E0 (tVar 4)))) (L2.start N__fitting [V.ref p, V.str u, V.str ho, V.str bd, V.ref al]) H F := fun F hF => by
        refine ⟨_, rfl, al, dxA, _, rfl, hA.ob, al, dxA, c, _, _, _, _, _, _, _, _, rfl, hA, rfl, _, rfl, ?_⟩
        rcases mok with ⟨rfl, rfl⟩ | ⟨rm, drm, rfl, hrm, m0, m1⟩
        · refine ifT (decide_eq_true rfl) ?_
          exact hF
        · refine ifF (decide_eq_false fun z => by cases z) ?_
          refine ⟨_, rfl, al, dxA, _, rfl, hA.ob, al, dxA, c, _, _, _, _, _, _, _, _, rfl, hA, ?_⟩
          exact ⟨rm, drm, _, rfl, hrm, _, m, rfl, ⟨rm, drm, rfl, hrm, m0, m1⟩, hF⟩
      refine main _ ?_
      clear main mok em
      have du2 : ∀ x, dget (sd c.us) x = dget c.us x := dget_perm a.ok.u.nd a.pu
      have dg2 : ∀ x, dget (sd c.gs) x = dget c.gs x := dget_perm a.ok.s.nd a.pg
      refine ⟨_, rfl, al, dxA, _, rfl, hA.ob, rfl, al, dxA, c, _, _, _, _, _, _, _, _, rfl, hA, NewO.mk fun ud H1 n1 k1 h1 => ?_⟩
      have hA1 := hA.keep k1
      refine ⟨_, rfl, _, rfl, ud, _, rfl, .inl ⟨ku, Sum.inr u, .inl h1, rfl, rfl⟩, _, rfl, ?_⟩
      rcases hA1.du.val u with ⟨e1, e2, _⟩ | ⟨v, d, e1, e2, ⟨rv, drv, rfl, hrv, v0, v1⟩, _⟩
      · rw [e1]
        refine ifF rfl ?_
        rw [du2] at e2
        rw [case_rest c1 e2] at q
        have pp1 := a.pp.keep k1
        obtain ⟨d_, g_, dx_, kvs_, hP1⟩ := id pp1
        refine ⟨_, rfl, p, dx_, _, rfl, hP1.ob, rfl, _, rfl, ?_⟩
        refine ⟨p, M, gs, u, rfl, pp1, a.u, NewO.mk fun hl H2 n2 k2 h2 => ?_⟩
        have hA2 := hA1.keep k2
        refine ⟨_, rfl, al, dxA, _, rfl, hA2.ob, rfl, al, dxA, c, _, _, _, _, _, _, _, _, rfl, hA2, NewO.mk fun nd H3 n3 k3 h3 => ?_⟩
        have hA3 := hA2.keep k3
        have K3 : Keep [] H H3 := (k1.trans k2).trans k3
        have hl3 := k3 _ _ h2 (by simp)
        have grp : ∀ F : VK, (∀ f H4, Keep [] H3 H4 → H3 f = none → TL H4 f (groupOf (mget M u) c m bd) → F (.ref f) H4) → (tIf (tTest (tOp (rIn K false) (tVar 3) (tVar 7))) (tLstS (tCons (tTupN (tCons (tC (V.str (Str.ofString "group"))) (tCons (tC (V.str (Str.ofString ""))) (tCons (tOp (rI0 fun i j => V.int (Builtin.bitAnd i j)) (tProp A.C_Rights (spDig A) [] E0 (tProp A.C_AccessList (fun vs H Q x => ∃ p dx c o g t mv u s ku ks, vs = [V.ref p] ∧ ALx A H p dx c o g t mv u s ku ks ∧ Q g H) [] E0 (tVar 4))) (tVar 5)) tNil)))) tNil)) (tLstS tNil)) [some (.ref p), some (.str u), some (.str ho), some (.str bd), some (.ref al), some (.int m), some (.ref ud), some (.ref hl), some (.ref nd), none, none] H3 F := fun F hF => by
          refine ⟨_, rfl, _, rfl, hl, _, rfl, .inl (.inl (.inl hl3)), rfl, FR.flat_strs _, _, rfl, ?_⟩
          show if inV (.str bd) ((mget M u).map V.str) = true then _ else _
          rw [in_strs]
          refine ifD (fun c3 => ?_) (fun c3 => ?_)
          · refine ⟨_, rfl, al, dxA, _, rfl, hA3.ob, al, dxA, c, _, _, _, _, _, _, _, _, rfl, hA3, ?_⟩
            refine ⟨rg, drg, _, rfl, K3 _ _ hrg (by simp), _, c.gr, rfl, ⟨rg, drg, rfl, K3 _ _ hrg (by simp), g0, g1⟩, ?_⟩
            refine ⟨_, rfl, _, _, rfl, rfl, ?_⟩
            refine ⟨(show 3 ≤ sizeLine by decide), NewO.mk fun t4 H4 n4 k4 h4 => ?_⟩
            refine ⟨(show 1 ≤ sizeLine by decide), NewS.mk fun l5 H5 n5 s5 k5 h5 => ?_⟩
            refine hF l5 H5 (k4.trans k5) (k4.free n5) ?_
            unfold groupOf
            rw [if_pos c3]
            exact one_TL (H0 := H) h4 k5 h5
          · refine ⟨Nat.zero_le _, NewS.mk fun l5 H5 n5 s5 k5 h5 => ?_⟩
            refine hF l5 H5 k5 n5 ?_
            unfold groupOf
            rw [if_neg c3]
            exact ⟨[], h5, .nil⟩
        refine grp _ fun f H4 k4 nf tf => ?_
        clear grp
        obtain ⟨vf, hf, pf⟩ := tf
        have K4 := K3.trans k4
        have lgs : (sd c.gs).length ≤ 6 := by rw [a.pg.length_eq]; exact a.ok.s.l6
        refine ⟨_, rfl, _, rfl, nd, ks, (sd c.gs).map (·.1), rfl, .inl (k4 _ _ h3 (by simp)), hA.ds.keys, by rw [List.length_map]; omega, fun ys ly py sy n5 => ?_⟩
        have ey : ys = srt (c.gs.map (·.1)) := by rw [srt_eq (py.trans (a.pg.map _)) sy]
        have k5 : Keep [] H4 (upd H4 ly (.lst (ys.map V.str))) := keep_new n5
        have h5 : upd H4 ly (.lst (ys.map V.str)) ly = some (.lst (ys.map V.str)) := upd_same
        generalize upd H4 ly (.lst (ys.map V.str)) = H5 at k5 h5 ⊢
        have K5 := K4.trans k5
        have l6 : ys.length ≤ 6 := by rw [py.length_eq, List.length_map]; exact lgs
        have k35 := k4.trans k5
        refine ⟨ly, rfl, ⟨_, .inl (.inl h5)⟩, fun D hD => ?_⟩
        refine lc_it (walk_list (xs := ys.map V.str)) (fun i H' => ∃ vs, Keep [] H5 H' ∧ H' D = some (.lst vs) ∧ Paired (TV H') vs (((ys.take i).filter fun n => decide (n ∈ mget M u)).map fun n => (Str.ofString "named", n, Builtin.bitAnd (dd c.gs n) m))) ⟨[], keep_new hD, upd_same, .nil⟩ (fun i H' _ h => ?_) (fun i x H6 H7 hi h6 y => ?_) (fun H6 h6 => ?_)
        · obtain ⟨_, k, _⟩ := h
          exact .inl (.inl (k _ _ h5 (by simp)))
        · obtain ⟨vs, k6, hD6, pv6⟩ := h6
          obtain ⟨rfl, hx⟩ := y
          rw [List.getElem?_map] at hx
          obtain ⟨n, hn, rfl⟩ := Option.map_eq_some_iff.mp hx
          have k36 := k35.trans k6
          have hl6 := k36 _ _ hl3 (by simp)
          refine ⟨rfl, ?_⟩
          refine ⟨_, rfl, _, rfl, hl, _, rfl, .inl (.inl (.inl hl6)), rfl, FR.flat_strs _, _, rfl, ?_⟩
          show if inV (.str n) ((mget M u).map V.str) = true then _ else _
          rw [in_strs]
          have hlen : vs.length < sizeLine := by
            refine size_ok ?_
            rw [Paired.length pv6, List.length_map]
            have h1 := List.length_filter_le (fun n => decide (n ∈ mget M u)) (ys.take i)
            have h2 := List.length_take_le' i ys
            omega
          refine ifD (fun c3 => ?_) (fun c3 => ?_)
          · have hA6 := hA3.keep k36
            obtain ⟨_, _, e3⟩ | ⟨v, d, e1', e2', ⟨rv, drv, rfl, hrv, v0, v1⟩, _⟩ := hA6.ds.val n
            · exact absurd (py.mem_iff.mp (List.mem_of_getElem? hn)) e3
            have ed : dd c.gs n = d := by unfold dd; rw [← dg2, e2']; rfl
            refine ⟨_, rfl, _, rfl, _, rfl, nd, _, rfl, .inl ⟨ks, Sum.inr n, .inl (k36 _ _ h3 (by simp)), rfl, e1'.symm⟩, ?_⟩
            refine ⟨rv, drv, _, rfl, hrv, _, d, rfl, ⟨rv, drv, rfl, hrv, v0, v1⟩, ?_⟩
            refine ⟨_, rfl, _, _, rfl, rfl, ?_⟩
            refine ⟨(show 3 ≤ sizeLine by decide), NewO.mk fun t8 H8 n8 k8 h8 => ?_⟩
            have hD8 := k8 _ _ hD6 (by simp)
            refine ⟨vs, hD8, hlen, vs ++ [.ref t8], keep_free (k6.trans k8) hD, upd_same, ?_⟩
            rw [filt_snoc hn, if_pos (decide_eq_true c3), List.map_append]
            have old := Paired.mapP pv6 fun _ _ r => (TV.keep r k8).put (o' := .lst (vs ++ [.ref t8])) hD8 (fun _ z => by cases z)
            have new : TV (upd H8 D (.lst (vs ++ [.ref t8]))) (.ref t8) (Str.ofString "named", n, Builtin.bitAnd d m) := TV.put ⟨t8, rfl, h8⟩ hD8 (fun _ z => by cases z)
            refine paired_snoc (y := (Str.ofString "named", n, Builtin.bitAnd (dd c.gs n) m)) old ?_
            rw [ed]
            exact new
          · refine ⟨vs, k6, hD6, ?_⟩
            rw [filt_snoc hn, if_neg (by rw [decide_eq_false c3]; exact Bool.false_ne_true), List.append_nil]
            exact pv6
        · obtain ⟨vs, k6, hD6, pv6⟩ := h6
          rw [List.length_map, List.take_length, ey] at pv6
          have hf6 := (k5.trans k6) _ _ hf (by simp)
          have pf6 := Paired.mapP pf fun _ _ r => (TV.keep r k5).keep k6
          have lvf : vf.length ≤ 1 := by
            rw [Paired.length pf]
            unfold groupOf
            split <;> simp
          have lvs : vs.length ≤ 6 := by
            rw [Paired.length pv6, List.length_map, ← ey]
            exact Nat.le_trans (List.length_filter_le _ _) l6
          refine ⟨f, D, vf, vs, rfl, rfl, hf6, hD6, size_le (by omega), NewO.mk fun r7 H7 n7 k7 h7 => ?_⟩
          have K6 := K5.trans k6
          have K7 := K6.trans k7
          have pall : Paired (TV H7) (vf ++ vs) (groupOf (mget M u) c m bd ++ namedOf (mget M u) c m) := paired_app (Paired.mapP pf6 fun _ _ r => TV.keep r k7) (Paired.mapP pv6 fun _ _ r => TV.keep r k7)
          refine ⟨_, rfl, !(vf ++ vs).isEmpty, .inl ⟨_, .inl (.inl h7), rfl⟩, ?_⟩
          by_cases e : groupOf (mget M u) c m bd ++ namedOf (mget M u) c m = []
          · rw [if_pos e] at q
            rw [e] at pall
            have ev : vf ++ vs = [] := List.length_eq_zero_iff.mp (Paired.length pall)
            rw [ev]
            refine ifF rfl ?_
            have hA7 := hA.keep K7
            refine ⟨_, rfl, al, dxA, _, rfl, hA7.ob, al, dxA, c, _, _, _, _, _, _, _, _, rfl, hA7, ?_⟩
            refine ⟨rt, drt, _, rfl, K7 _ _ hrt (by simp), _, c.ot, rfl, hA7.ht, ?_⟩
            refine ⟨(show 3 ≤ sizeLine by decide), NewO.mk fun t8 H8 n8 k8 h8 => ?_⟩
            refine ⟨(show 1 ≤ sizeLine by decide), NewS.mk fun l9 H9 n9 s9 k9 h9 => ?_⟩
            exact q l9 H9 ((K7.trans k8).free n9) ((K7.trans k8).trans k9) (one_TL (H0 := H) h8 k9 h9)
          · rw [if_neg e] at q
            have ev : (vf ++ vs).isEmpty = false := by
              cases hv : vf ++ vs with
              | nil =>
                rw [hv] at pall
                exact absurd (List.length_eq_zero_iff.mp (Paired.length pall).symm) e
              | cons x y => rfl
            rw [ev]
            refine ifT rfl ?_
            refine ⟨_, rfl, ?_⟩
            exact q r7 H7 (K6.free n7) K7 ⟨_, h7, pall⟩
      · rw [e1]
        refine ifT rfl ?_
        rw [du2] at e2
        rw [case_user c1 e2] at q
        refine ⟨_, rfl, ?_⟩
        refine ⟨_, rfl, _, rfl, ud, _, rfl, .inl ⟨ku, Sum.inr u, .inl h1, rfl, e1.symm⟩, ?_⟩
        refine ⟨rv, drv, _, rfl, hrv, _, d, rfl, ⟨rv, drv, rfl, hrv, v0, v1⟩, ?_⟩
        refine ⟨_, rfl, _, _, rfl, rfl, ?_⟩
        refine ⟨(show 3 ≤ sizeLine by decide), NewO.mk fun t4 H4 n4 k4 h4 => ?_⟩
        refine ⟨(show 1 ≤ sizeLine by decide), NewS.mk fun l5 H5 n5 s5 k5 h5 => ?_⟩
        exact q l5 H5 ((k1.trans k4).free n5) ((k1.trans k4).trans k5) (one_TL (H0 := H) h4 k5 h5)
end
end K28
namespace K28
open PySem PySem.Spec PyProof.Rows L2 FR TL
open C8 (pss_cut pe_gc)
open StX (pe_callS2 pa_star)
theorem case_len {held : List Str} {c : AcR} {u ho bd : Str} (pg : (sd c.gs).Perm c.gs) (l6 : c.gs.length ≤ 6) : (caseOf held c u ho bd).length ≤ 7 := by
  unfold caseOf caseM
  have ln : (namedOf held c (maskI c)).length ≤ 6 := by
    unfold namedOf
    rw [List.length_map]
    refine Nat.le_trans (List.length_filter_le _ _) ?_
    have h1 := pg.length_eq
    unfold sd at h1
    rw [List.length_map] at h1
    omega
  have lg : (groupOf held c (maskI c) bd).length ≤ 1 := by
    unfold groupOf
    split <;> simp
  split
  · simp
  · split
    · simp
    · split
      · simp
      · rw [List.length_append]; omega
def grants (ts : Tr) (d : Int) : Bool := ts.any fun e => decide (Builtin.bitAnd e.2.2 d = d)
theorem take_map_snoc {ts : Tr} {i : Nat} {e : Str × Str × Int} {α : Type} {f : Str × Str × Int → α} (h : ts[i]? = some e) : (ts.take (i + 1)).map f = (ts.take i).map f ++ [f e] := by
  rw [List.take_add_one, h, List.map_append]
  rfl
theorem tl_get {H : Hp} {vs : List V} {ts : Tr} (h : Paired (TV H) vs ts) {i : Nat} {v : V} (hv : vs[i]? = some v) : ∃ e, ts[i]? = some e ∧ TV H v e := by
  induction h generalizing i with
  | nil => simp at hv
  | @cons x e a b r t ih =>
    cases i with
    | zero =>
      obtain rfl : x = v := by simpa using hv
      exact ⟨e, rfl, r⟩
    | succ i => exact ih (by simpa using hv)
section
variable {P : Program} {w : World} {K : PySem.W.Frag} {mg : Str → Option Value} {base : Heap} {A : Ads}
set_option pp.maxSteps 120
theorem ok_granting_digits (T : Txt w K mg A) : FnOk P w K mg base CX0 5 A.f_granting_digits A.d_granting_digits ["people", "user", "owner", "group", "access"] (fun vs H Q _ => ∃ j p M gs al c u ho bd, vs = [.ref p, .str u, .str ho, .str bd, .ref al] ∧ Ask A H j p M gs al c u ho bd ∧ NewO (.tup ((caseOf (mget M u) c u ho bd).map fun e => V.int e.2.2)) Q H) := by
  refine T.F_granting_digits.ok sc_granting_digits (fun vs H Q E h => ?_) (fun cdv A_ outer s_ H vs Q E hr h => ?_)
  · obtain ⟨j, p, M, gs, al, c, u, ho, bd, rfl, _⟩ := h
    rfl
  · obtain ⟨j, p, M, gs, al, c, u, ho, bd, rfl, a, q⟩ := h
    refine ⟨_, (pss_one (ps_ret (pe_callTy call_tuple_of (by rfl) T.b_tuple (by decide +kernel) (pa_cons (pe_lc (own := [("kind", 5), ("name", 6), ("digit", 7)]) (g := gTup K 3 (gCons (gName 5) (gCons (gName 6) (gCons (gName 7) gNil)))) rfl sc_granting_digits.nd (pi_list (pe_call (ok__fitting T) (hr.mono (by decide)) (by rfl) T.g__fitting T.F__fitting.kp T.B__fitting .nil pass0 (pa_cons (pv 0) (pa_cons (pv 1) (pa_cons (pv 2) (pa_cons (pv 3) (pa_cons (pv 4) pa_nil))))))) (blkOk_by (own := [("kind", 5), ("name", 6), ("digit", 7)]) (N := N_granting_digits) (sc := defScope s_granting_digits) (by decide +kernel)) (fun _ _ _ _ _ => (pg_tup rfl (pgs_cons (pg_name (i := 5) sc_granting_digits.nd rfl (.inl rfl)) (pgs_cons (pg_name (i := 6) sc_granting_digits.nd rfl (.inl rfl)) (pgs_cons (pg_name (i := 7) sc_granting_digits.nd rfl (.inl rfl)) pgs_nil))))) (fun _ _ _ _ _ => pts_nil) (fun _ _ _ _ _ => (pv 7))) pa_nil)))), ?_⟩
    have l7 := case_len (held := mget M u) (u := u) (ho := ho) (bd := bd) a.pg a.ok.s.l6
    refine ⟨_, rfl, _, rfl, _, rfl, _, rfl, _, rfl, j, p, M, gs, al, c, u, ho, bd, rfl, a, fun l H1 nl k1 tl1 => ?_⟩
    obtain ⟨vs, h1, pv⟩ := tl1
    have lv := Paired.length pv
    generalize caseOf (mget M u) c u ho bd = ts at q l7 pv lv
    refine ⟨l, rfl, ⟨_, .inl (.inl h1)⟩, fun D hD => ?_⟩
    refine lc_it (walk_list (xs := vs)) (fun i H' => Keep [] H1 H' ∧ H' D = some (.lst ((ts.take i).map fun e => V.int e.2.2))) ⟨keep_new hD, upd_same⟩ (fun i H' _ h => .inl (.inl (h.1 _ _ h1 (by simp)))) (fun i x H2 H3 hi h2 y => ?_) (fun H2 h2 => ?_)
    · obtain ⟨rfl, hx⟩ := y
      obtain ⟨e, he, t, rfl, ht⟩ := tl_get pv hx
      refine ⟨t, _, rfl, .inl (.inl (h2.1 _ _ ht (by simp))), rfl, ?_⟩
      walk_at "rd"
      refine ⟨_, h2.2, size_ok (by rw [List.length_map, List.length_take]; omega), keep_free h2.1 hD, ?_⟩
      rw [upd_same, take_map_snoc he]
    · obtain ⟨k2, h2⟩ := h2
      rw [lv, List.take_length] at h2
      refine ⟨D, _, rfl, .inl ⟨.inl (.inl h2), fun t3 n3 => ?_⟩⟩
      exact q.to t3 _ ((k1.trans k2).free n3) ((k1.trans k2).trans (keep_new n3)) upd_same
theorem First.l4 {H : Hp} {t0 t1 t2 t3 t4 b : V} {k : Nat} (h : First A H t0 t1 t2 t3 t4 k b) (h4 : 4 ≤ k) : (k = 4 ∧ b = t4 ∧ ∃ e, Odd H t4 e ∧ letD e = none) ∨ (k = 5 ∧ ∃ t d, t4 = .str t ∧ (t, d) ∈ goodT) := by
  cases h with
  | b4 a b c d e => exact .inl ⟨rfl, rfl, e⟩
  | ok a b c d e => exact .inr ⟨rfl, e⟩
  | b0 _ => exact absurd h4 (by decide)
  | b1 _ _ => exact absurd h4 (by decide)
  | b2 _ _ _ => exact absurd h4 (by decide)
  | b3 _ _ _ _ => exact absurd h4 (by decide)
def spCall (A : Ads) : Sp := fun vs H Q E => ∃ j p t0 t1 t2 t3 t4 k b, vs = [.ref j, t0, t1, t2, t3, t4] ∧ Jd A H j p ∧ First A H t0 t1 t2 t3 t4 k b ∧ Ends A k b E H ∧ (k = 4 → Out A.C_InvalidRights b E H) ∧ (k = 5 → ∀ v H', Keep [] H H' → Q v H')
theorem ok_Judge___call__ (T : Txt w K mg A) : FnOk P w K mg base (L2.CX P w) 6 A.f_Judge___call__ A.d_Judge___call__ ["self", "user", "owner", "group", "access", "letters"] (spCall A) := by
  refine T.F_Judge___call__.okX sc_Judge___call__ (fun vs H Q E h => ?_) (fun cdv A_ outer s_ H vs Q E hr h => ?_)
  · obtain ⟨j, p, t0, t1, t2, t3, t4, k, b, rfl, _⟩ := h
    rfl
  · obtain ⟨j, p, t0, t1, t2, t3, t4, k, b, rfl, hJ, fi, en, e4, q⟩ := h
    refine ⟨_, (pss_cons (ps_expr (pe_meth (pv 0) T.cl_Judge T.me_Judge__check (ok_Judge__check T) (hr.mono (by decide)) T.B_Judge__check .nil (pxE rfl rfl rfl rfl) (pa_cons (pv 1) (pa_cons (pv 2) (pa_cons (pv 3) (pa_cons (pv 4) pa_nil))))))
  (pss_cons (ps_set (i := 6) sc_Judge___call__.nd rfl (.inr rfl) (pe_callS (ok_as_digit T) (hr.mono (by decide)) (by rfl) T.g_as_digit T.F_as_digit.kp T.B_as_digit (fun σ => passAt (takes_of rfl rfl rfl rfl) σ) (pa_cons (pv 5) pa_nil)))
  (pss_one (ps_ret (pe_callB (cr_any rfl) (by rfl) T.b_any (by decide +kernel) (pa_cons (pe_lc (own := [("digit", 7)]) (g := gName 7) rfl sc_Judge___call__.nd (pi_tup (pe_call (ok_granting_digits T) (hr.mono (by decide)) (by rfl) T.g_granting_digits T.F_granting_digits.kp T.B_granting_digits .nil pass0 (pa_cons (pe_fld (pv 0) rfl) (pa_cons (pv 1) (pa_cons (pv 2) (pa_cons (pv 3) (pa_cons (pv 4) pa_nil))))))) (blkOk_by (own := [("digit", 7)]) (N := N_Judge___call__) (sc := defScope s_Judge___call__) (by decide +kernel)) (fun _ _ _ _ _ => pg_name (i := 7) sc_Judge___call__.nd rfl (Or.inl rfl)) (fun _ _ _ _ _ => pts_nil) (fun _ _ _ _ _ => (pe_cmpR op_eq (pe_op op_and (pv 7) (pv 6)) (pv 6) (nomark _)))) pa_nil)))))), ?_⟩
    obtain ⟨dj, hj⟩ := hJ.1
    refine ⟨_, rfl, j, dj, _, rfl, hj, rfl, _, rfl, _, rfl, _, rfl, _, rfl, ?_⟩
    refine ⟨j, p, t0, t1, t2, t3, t4, k, b, rfl, hJ, fi, en, fun k4 H1 k1 => ?_⟩
    obtain ⟨al, c, u, ho, bd, rfl, rfl, rfl, rfl, a⟩ := fi.ask hJ k4
    rcases (fi.keep k1).l4 k4 with ⟨rfl, rfl, hl⟩ | ⟨rfl, t, d, rfl, g⟩
    · refine ⟨_, rfl, _, rfl, .inr ⟨hl, (e4 rfl).mono k1⟩⟩
    have q := q rfl
    have l7 := case_len (held := mget m0 u) (u := u) (ho := ho) (bd := bd) a.pg a.ok.s.l6
    refine ⟨_, rfl, _, rfl, .inl ⟨t, d, rfl, g, ?_⟩⟩
    have a1 := a.keep k1
    refine ⟨_, rfl, j, _, dj, _, _, rfl, k1 _ _ hj (by simp), T.cl_Judge, T.na_Judge__people, rfl, ?_⟩
    refine ⟨_, rfl, _, rfl, _, rfl, _, rfl, j, p, m0, gs0, al, c, u, ho, bd, rfl, a1, NewO.mk fun t H2 n2 k2 h2 => ?_⟩
    generalize caseOf (mget m0 u) c u ho bd = ts at l7 h2
    refine ⟨t, rfl, ⟨_, .inl (.inl h2)⟩, fun D hD => ?_⟩
    refine lc_it (walk_tup (xs := ts.map fun e => V.int e.2.2)) (fun i H' => Keep [] H2 H' ∧ H' D = some (.lst ((ts.take i).map fun e => V.bl (decide (Builtin.bitAnd e.2.2 d = d))))) ⟨keep_new hD, upd_same⟩ (fun i H' _ h => .inl (.inl (h.1 _ _ h2 (by simp)))) (fun i x H3 H4 hi h3 y => ?_) (fun H3 h3 => ?_)
    · obtain ⟨rfl, hx⟩ := y
      rw [List.getElem?_map] at hx
      obtain ⟨e, he, rfl⟩ := Option.map_eq_some_iff.mp hx
      have li : i < ts.length := by rw [List.length_map] at hi; exact hi
      walk_at "rd"
      refine ⟨_, h3.2, size_ok (by rw [List.length_map, List.length_take]; omega), keep_free h3.1 hD, ?_⟩
      rw [upd_same, take_map_snoc he]
      show some (HO.lst (_ ++ [V.bl (decide (V.int (Builtin.bitAnd e.2.2 d) = V.int d))])) = _
      rw [show decide (V.int (Builtin.bitAnd e.2.2 d) = V.int d) = decide (Builtin.bitAnd e.2.2 d = d) by simp]
    · obtain ⟨k3, h3⟩ := h3
      rw [List.length_map, List.take_length] at h3
      refine ⟨D, ts.map fun e => decide (Builtin.bitAnd e.2.2 d = d), rfl, .inl (.inl (by rw [List.map_map]; exact h3)), ?_⟩
      exact q _ H3 ((k1.trans k2).trans k3)
end
end K28
namespace K28
open PySem PySem.Spec PyProof.Rows L2 FR TL
open C8 (pss_cut pe_gc)
open StX (pe_callS2 pa_star)
/-! what the letters come to -/
def In8 (x : Int) : Prop := 0 ≤ x ∧ x ≤ 7
theorem In8.fin {x : Int} (h : In8 x) : ∃ k : Fin 8, x = (k.1 : Int) := ⟨⟨x.toNat, by have := h.1; have := h.2; omega⟩, by have := h.1; show x = (x.toNat : Int); omega⟩
def has (x k : Int) : Bool := decide (Builtin.bitAnd x k = k)
def tot (x : Int) : Int := (if has x 4 = true then 4 else 0) + (if has x 2 = true then 2 else 0) + (if has x 1 = true then 1 else 0)
theorem tot_fin : ∀ a : Fin 8, tot (a.1 : Int) = (a.1 : Int) := by decide +kernel
theorem or_fin : ∀ a b : Fin 8, (has (Builtin.bitOr (a.1 : Int) (b.1 : Int)) 4 = (has (a.1 : Int) 4 || has (b.1 : Int) 4)) ∧ (has (Builtin.bitOr (a.1 : Int) (b.1 : Int)) 2 = (has (a.1 : Int) 2 || has (b.1 : Int) 2)) ∧ (has (Builtin.bitOr (a.1 : Int) (b.1 : Int)) 1 = (has (a.1 : Int) 1 || has (b.1 : Int) 1)) := by decide +kernel
def orD (ts : Tr) (a : Int) : Int := ts.foldl (fun x e => Builtin.bitOr x e.2.2) a
def DgT (ts : Tr) : Prop := ∀ e ∈ ts, In8 e.2.2
theorem orD_in : ∀ {ts : Tr} {a : Int}, DgT ts → In8 a → In8 (orD ts a)
  | [], _, _, h => h
  | e :: r, a, h, ha => by
    show In8 (orD r (Builtin.bitOr a e.2.2))
    have he := h e List.mem_cons_self
    exact orD_in (fun x hx => h x (List.mem_cons_of_mem _ hx)) (or_in ha.1 ha.2 he.1 he.2)
theorem orD_has : ∀ {ts : Tr} {a : Int}, DgT ts → In8 a → has (orD ts a) 4 = (has a 4 || grants ts 4) ∧ has (orD ts a) 2 = (has a 2 || grants ts 2) ∧ has (orD ts a) 1 = (has a 1 || grants ts 1)
  | [], a, _, _ => by
    unfold grants orD
    simp
  | e :: r, a, h, ha => by
    have he := h e List.mem_cons_self
    obtain ⟨i1, i2, i3⟩ := orD_has (ts := r) (a := Builtin.bitOr a e.2.2) (fun x hx => h x (List.mem_cons_of_mem _ hx)) (or_in ha.1 ha.2 he.1 he.2)
    obtain ⟨x, ex⟩ := ha.fin
    obtain ⟨y, ey⟩ := he.fin
    obtain ⟨o1, o2, o3⟩ := or_fin x y
    rw [← ex, ← ey] at o1 o2 o3
    show has (orD r (Builtin.bitOr a e.2.2)) 4 = _ ∧ has (orD r (Builtin.bitOr a e.2.2)) 2 = _ ∧ has (orD r (Builtin.bitOr a e.2.2)) 1 = _
    rw [i1, i2, i3, o1, o2, o3]
    unfold grants has
    simp [Bool.or_assoc]
def sumG (ts : Tr) : Int := (if grants ts 4 = true then 4 else 0) + (if grants ts 2 = true then 2 else 0) + (if grants ts 1 = true then 1 else 0)
theorem orD_sum {ts : Tr} (h : DgT ts) : orD ts 0 = sumG ts := by
  have h0 : In8 0 := ⟨by decide, by decide⟩
  obtain ⟨k, ek⟩ := (orD_in h h0).fin
  have e := tot_fin k
  rw [← ek] at e
  obtain ⟨i1, i2, i3⟩ := orD_has h h0
  rw [← e]
  unfold tot sumG
  rw [i1, i2, i3, show has 0 4 = false by decide +kernel, show has 0 2 = false by decide +kernel, show has 0 1 = false by decide +kernel, Bool.false_or, Bool.false_or, Bool.false_or]
theorem and_in8 : ∀ a b : Fin 8, 0 ≤ Builtin.bitAnd (a.1 : Int) (b.1 : Int) ∧ Builtin.bitAnd (a.1 : Int) (b.1 : Int) ≤ 7 := by decide +kernel
theorem In8.and {x y : Int} (hx : In8 x) (hy : In8 y) : In8 (Builtin.bitAnd x y) := by
  obtain ⟨a, rfl⟩ := hx.fin
  obtain ⟨b, rfl⟩ := hy.fin
  exact and_in8 a b
theorem dd_in {m : Dm} (h : Dg m) (u : Str) : In8 (dd m u) := by
  unfold K28.dd
  cases e : dget m u with
  | none => exact ⟨by decide, by decide⟩
  | some d => exact h.ds _ (dget_mem e)
theorem mask_in {c : AcR} (ok : AccOk c) : In8 (maskI c) := by
  unfold maskI
  rcases ok.m with ⟨e, _⟩ | ⟨d, e, h⟩
  · rw [e]; exact ⟨by decide, by decide⟩
  · rw [e]; exact h
theorem case_dg {held : List Str} {c : AcR} {u ho bd : Str} (ok : AccOk c) : DgT (caseOf held c u ho bd) := by
  intro e he
  have hm := mask_in ok
  unfold caseOf caseM at he
  split at he
  · rw [List.mem_singleton.mp he]; exact ok.o
  · split at he
    · rename_i d e1
      rw [List.mem_singleton.mp he]
      exact In8.and (ok.u.ds _ (dget_mem e1)) hm
    · split at he
      · rw [List.mem_singleton.mp he]; exact ok.t
      · rcases List.mem_append.mp he with he | he
        · unfold groupOf at he
          split at he
          · rw [List.mem_singleton.mp he]; exact In8.and ok.g hm
          · simp at he
        · unfold namedOf at he
          obtain ⟨n, hn, rfl⟩ := List.mem_map.mp he
          exact In8.and (dd_in ok.s n) hm
/-! pairs of texts -/
abbrev Pr := List (Str × Str)
def pr2 (e : Str × Str × Int) : Str × Str := (e.1, e.2.1)
def PV (H : Hp) (v : V) (e : Str × Str) : Prop := ∃ t, v = .ref t ∧ H t = some (.tup [.str e.1, .str e.2])
theorem PV.keep {H H' : Hp} {v : V} {e : Str × Str} (h : PV H v e) (k : Keep [] H H') : PV H' v e := by
  obtain ⟨t, rfl, h⟩ := h
  exact ⟨t, rfl, k _ _ h (by simp)⟩
theorem PV.put {H : Hp} {D : Addr} {o o' : HO} {v : V} {e : Str × Str} (r : PV H v e) (h : H D = some o) (n : ∀ ys, o ≠ .tup ys) : PV (upd H D o') v e := by
  obtain ⟨q, rfl, hq⟩ := r
  exact ⟨q, rfl, by rw [upd_ne (ne_of hq h fun z => n _ z.symm)]; exact hq⟩
def PL (H : Hp) (l : Addr) (ps : Pr) : Prop := ∃ vs, H l = some (.lst vs) ∧ Paired (PV H) vs ps
theorem PL.keep {H H' : Hp} {l : Addr} {ps : Pr} (h : PL H l ps) (k : Keep [] H H') : PL H' l ps := by
  obtain ⟨vs, h, p⟩ := h
  exact ⟨vs, k _ _ h (by simp), Paired.mapP p fun _ _ r => r.keep k⟩
def prD (e : Str × Str) : PyData := .tuple [.str e.1, .str e.2]
def AscP (ps : Pr) : Prop := ∀ e ∈ ps, Asc e.1 ∧ Asc e.2
theorem lay_pr : ∀ {ps : Pr}, AscP ps → PyData.canLayAll0 (ps.map prD) = true
  | [], _ => rfl
  | e :: r, h => by
    obtain ⟨h1, h2⟩ := h e List.mem_cons_self
    rw [List.map_cons, PyData.canLayAll0, lay_pr fun x hx => h x (List.mem_cons_of_mem _ hx)]
    unfold prD
    rw [PyData.canLay0, PyData.canLayAll0, PyData.canLayAll0, PyData.canLayAll0, PyData.canLay0, PyData.canLay0, str_ok h1, str_ok h2]
    rfl
theorem depth_pr : ∀ ps : Pr, PyData.depthAll (ps.map prD) ≤ 1
  | [] => by decide
  | e :: r => by
    have ih := depth_pr r
    rw [List.map_cons, PyData.depthAll]
    have : PyData.depth (prD e) = 1 := by unfold prD; rfl
    rw [this]
    omega
theorem shaped_pr {ps : Pr} (h : AscP ps) : SeqAt.shaped (.list (ps.map prD)) = true := by
  unfold SeqAt.shaped
  rw [PyData.canLay0, lay_pr h, PyData.depth]
  have := depth_pr ps
  simp
  omega
theorem dp_pr {K : PySem.W.Frag} {H : Hp} {vs : List V} {ps : Pr} (h : Paired (PV H) vs ps) : DpAll K H vs (ps.map prD) := by
  induction h with
  | nil => exact .nil
  | cons r t ih =>
    obtain ⟨q, rfl, hq⟩ := r
    exact .cons (.tup (.inl (.inl hq)) (.cons (.str _) (.cons (.str _) .nil))) ih
theorem eqv_prnil (ps : Pr) : PyData.eqv (.list (ps.map prD)) (.list []) = decide (ps = []) := by
  cases ps with
  | nil => rfl
  | cons e r => rfl
theorem prD_eqv (e f : Str × Str) : PyData.eqv (prD e) (prD f) = decide (e = f) := by
  unfold prD
  show (decide (e.1 = f.1) && (decide (e.2 = f.2) && true)) = _
  rw [Bool.and_true, ← Bool.decide_and]
  exact decide_eq_decide.mpr ⟨fun ⟨a, b⟩ => Prod.ext a b, fun h => by rw [h]; exact ⟨rfl, rfl⟩⟩
theorem eqv_prs : ∀ ps qs : Pr, PyData.eqvAll (ps.map prD) (qs.map prD) = decide (ps = qs)
  | [], [] => rfl
  | [], _ :: _ => rfl
  | _ :: _, [] => rfl
  | e :: r, f :: s => by
    show (PyData.eqv (prD e) (prD f) && PyData.eqvAll (r.map prD) (s.map prD)) = _
    rw [prD_eqv, eqv_prs r s, ← Bool.decide_and]
    exact decide_eq_decide.mpr ⟨fun ⟨a, b⟩ => by rw [a, b], fun h => by cases h; exact ⟨rfl, rfl⟩⟩
theorem eqv_pl (ps qs : Pr) : PyData.eqv (.list (ps.map prD)) (.list (qs.map prD)) = decide (ps = qs) := eqv_prs ps qs
theorem any_pr (ps : Pr) (e : Str × Str) : ((ps.map prD).any fun z => PyData.eqv z (prD e)) = decide (e ∈ ps) := by
  induction ps with
  | nil => rfl
  | cons f r ih =>
    rw [List.map_cons, List.any_cons, prD_eqv, ih, ← Bool.decide_or]
    exact decide_eq_decide.mpr ⟨fun h => h.elim (fun h => by rw [h]; exact List.mem_cons_self) (fun h => List.mem_cons_of_mem _ h), fun h => (List.mem_cons.mp h).elim (fun h => .inl h.symm) .inr⟩
end K28
namespace K28
open PySem PySem.Spec PyProof.Rows L2 FR TL
open C8 (pss_cut pe_gc)
open StX (pe_callS2 pa_star)
section
variable {P : Program} {w : World} {K : PySem.W.Frag} {mg : Str → Option Value} {base : Heap} {A : Ads}
set_option pp.maxSteps 120
theorem ok_is_integer (T : Txt w K mg A) : FnOk P w K mg base CX0 1 A.f_is_integer A.d_is_integer ["value", "low", "high"] (fun vs H Q _ => ∃ i lo hi : Int, vs = [.int i, .int lo, .int hi] ∧ lo ≤ i ∧ i ≤ hi ∧ Q (.bl true) H) := by
  refine T.F_is_integer.ok sc_is_integer (fun vs H Q E h => ?_) (fun cdv A_ outer s H vs Q E hr h => ?_)
  · obtain ⟨i, lo, hi, rfl, _⟩ := h
    rfl
  · obtain ⟨i, lo, hi, rfl, h0, h1, q⟩ := h
    refine ⟨_, (pss_one (ps_ret (pe_and (pe_callB call_isi (by rfl) T.b_isinstance (by decide +kernel) (pa_cons (pv 0) (pa_cons (pe_bltn (v := .ty "int") rfl T.b_int (by decide +kernel) rfl) pa_nil))) (pe_and (pe_not (pe_callB call_isi (by rfl) T.b_isinstance (by decide +kernel) (pa_cons (pv 0) (pa_cons (pe_bltn (v := .ty "bool") rfl T.b_bool (by decide +kernel) rfl) pa_nil)))) (pe_one (pe_chain op_le op_le (pv 1) (pv 0) (pv 2))))))), ?_⟩
    walk_at "rd"
    refine ifT (decide_eq_true h0) ?_
    refine ⟨_, rfl, ?_⟩
    refine ⟨_, _, rfl, rfl, ?_⟩
    show Q (V.bl (decide (i ≤ hi))) H
    rw [decide_eq_true h1]
    exact q
theorem ok_Rights_from_digit (T : Txt w K mg A) : FnOk P w K mg base CX0 4 A.f_Rights_from_digit A.d_Rights_from_digit ["cls", "digit"] (fun vs H Q _ => ∃ d : Int, vs = [.ref A.C_Rights, .int d] ∧ 0 ≤ d ∧ d ≤ 7 ∧ NewR A d Q H) := by
  refine T.F_Rights_from_digit.ok sc_Rights_from_digit (fun vs H Q E h => ?_) (fun cdv A_ outer s H vs Q E hr h => ?_)
  · obtain ⟨d, rfl, _⟩ := h
    rfl
  · obtain ⟨d, rfl, d0, d1, q⟩ := h
    refine ⟨_, (pss_cons (ps_if (pt_not (pt_val (pe_call (ok_is_integer T) (hr.mono (by decide)) (by rfl) T.g_is_integer T.F_is_integer.kp T.B_is_integer .nil pass0 (pa_cons (pv 1) (pa_cons pe_int (pa_cons (pe_gc rfl T.c_ALL_DIGIT) pa_nil)))))) (pss_one ps_never) pss_nil)
  (pss_one (ps_ret (pe_makeL (pv 0) T.mk_Rights (ok_Rights___init__ T) (hr.mono (by decide)) (bd_Rights___init___1 T).2 (bd_Rights___init___1 T).1 pass0 (pa_cons (pe_ix ix_tup (pe_gc rfl T.c_WORDS) (pv 1) (fun _ _ => rfl)) pa_nil))))), ?_⟩
    walk_at "rd"
    refine ⟨d, 0, 7, rfl, d0, d1, ?_⟩
    refine ⟨_, rfl, ?_⟩
    refine ifF rfl ?_
    refine ⟨rfl, ?_⟩
    refine ⟨_, rfl, _, _, _, _, rfl, rfl, wd_sq T H, wd_at d0 d1, ?_⟩
    intro x dy hx hdy hne
    refine ⟨x, dy, _, _, rfl, upd_same, lw_good d0 d1, fun H2 k2 h2 => ⟨rfl, ?_⟩⟩
    exact q x dy H2 hx hdy (keep_of_new Keep.refl hx hdy k2) h2
theorem orD_snoc {ts : Tr} {i : Nat} {e : Str × Str × Int} (h : ts[i]? = some e) (a : Int) : orD (ts.take (i + 1)) a = Builtin.bitOr (orD (ts.take i) a) e.2.2 := by
  unfold orD
  rw [List.take_add_one, h, List.foldl_append]
  rfl
def spLetters (A : Ads) : Sp := fun vs H Q E => ∃ j p t0 t1 t2 t3 t4 k b, vs = [.ref j, t0, t1, t2, t3] ∧ Jd A H j p ∧ First A H t0 t1 t2 t3 t4 k b ∧ Ends A k b E H ∧ (4 ≤ k → ∀ v H', Keep [] H H' → Q v H')
theorem ok_Judge_letters_of (T : Txt w K mg A) : FnOk P w K mg base (L2.CX P w) 6 A.f_Judge_letters_of A.d_Judge_letters_of ["self", "user", "owner", "group", "access"] (spLetters A) := by
  refine T.F_Judge_letters_of.okX sc_Judge_letters_of (fun vs H Q E h => ?_) (fun cdv A_ outer s_ H vs Q E hr h => ?_)
  · obtain ⟨j, p, t0, t1, t2, t3, t4, k, b, rfl, _⟩ := h
    rfl
  · obtain ⟨j, p, t0, t1, t2, t3, t4, k, b, rfl, hJ, fi, en, q⟩ := h
    refine ⟨_, (pss_cons (ps_expr (pe_meth (pv 0) T.cl_Judge T.me_Judge__check (ok_Judge__check T) (hr.mono (by decide)) T.B_Judge__check .nil (pxE rfl rfl rfl rfl) (pa_cons (pv 1) (pa_cons (pv 2) (pa_cons (pv 3) (pa_cons (pv 4) pa_nil))))))
  (pss_cons (ps_set (i := 5) sc_Judge_letters_of.nd rfl (.inl rfl) pe_int)
  (pss_cons (ps_for (passes_of rfl) rfl (pi_tup (pe_call (ok_granting_digits T) (hr.mono (by decide)) (by rfl) T.g_granting_digits T.F_granting_digits.kp T.B_granting_digits .nil pass0 (pa_cons (pe_fld (pv 0) rfl) (pa_cons (pv 1) (pa_cons (pv 2) (pa_cons (pv 3) (pa_cons (pv 4) pa_nil))))))) (pg_name (i := 6) sc_Judge_letters_of.nd rfl (.inl rfl)) (pss_one (ps_set (i := 5) sc_Judge_letters_of.nd rfl (.inl rfl) (pe_op op_or (pv 5) (pv 6)))))
  (pss_one (ps_ret (ClX.pe_cmeth (pe_gc rfl T.c_Rights) T.cr_Rights T.cm_Rights_from_digit ((ok_Rights_from_digit T).raw T.B_Rights_from_digit .nil) (hr.mono (by decide)) pass0 (pa_cons (pv 5) pa_nil))))))), ?_⟩
    obtain ⟨dj, hj⟩ := hJ.1
    refine ⟨_, rfl, j, dj, _, rfl, hj, rfl, _, rfl, _, rfl, _, rfl, _, rfl, ?_⟩
    refine ⟨j, p, t0, t1, t2, t3, t4, k, b, rfl, hJ, fi, en, fun k4 H1 k1 => ?_⟩
    obtain ⟨al, c, u, ho, bd, rfl, rfl, rfl, rfl, a⟩ := fi.ask hJ k4
    have q := q k4
    have dg := case_dg (held := mget m0 u) (u := u) (ho := ho) (bd := bd) a.ok
    have a1 := a.keep k1
    refine ⟨_, rfl, j, _, dj, _, _, rfl, k1 _ _ hj (by simp), T.cl_Judge, T.na_Judge__people, rfl, ?_⟩
    refine ⟨_, rfl, _, rfl, _, rfl, _, rfl, j, p, m0, gs0, al, c, u, ho, bd, rfl, a1, NewO.mk fun t H2 n2 k2 h2 => ?_⟩
    generalize caseOf (mget m0 u) c u ho bd = ts at h2 dg
    refine ⟨t, rfl, ⟨_, .inl (.inl h2)⟩, ?_⟩
    refine for_it (walk_tup (xs := ts.map fun e => V.int e.2.2)) (fun i σ H' => (∃ y6, σ = [some (.ref j), some (.str u), some (.str ho), some (.str bd), some (.ref al), some (.int (orD (ts.take i) 0)), y6]) ∧ H' = H2) ⟨⟨_, rfl⟩, rfl⟩ (fun i σ H' _ h => .inl (.inl (by rw [h.2]; exact h2))) ?_ ?_
    · rintro i v σ H3 H3' hi ⟨⟨y6, rfl⟩, rfl⟩ ⟨rfl, hx⟩
      rw [List.getElem?_map] at hx
      obtain ⟨e, he, rfl⟩ := Option.map_eq_some_iff.mp hx
      refine ⟨_, rfl, _, rfl, _, _, rfl, rfl, ?_⟩
      refine ⟨⟨some (.int e.2.2), ?_⟩, rfl⟩
      rw [orD_snoc he]
      rfl
    · rintro σ H3 ⟨⟨y6, rfl⟩, rfl⟩
      rw [List.length_map, List.take_length]
      have i8 := orD_in (a := 0) dg ⟨by decide, by decide⟩
      refine ⟨rfl, _, rfl, ?_⟩
      refine ⟨_, rfl, i8.1, i8.2, fun x dx H4 nx ndx k4 h4 => ?_⟩
      exact q _ H4 ((k1.trans k2).trans k4)
end
end K28
namespace K28
open PySem PySem.Spec PyProof.Rows L2 FR TL
open C8 (pss_cut pe_gc)
open StX (pe_callS2 pa_star)
theorem filt_snocT {ts : Tr} {i : Nat} {e : Str × Str × Int} {p : Str × Str × Int → Bool} (h : ts[i]? = some e) : (ts.take (i + 1)).filter p = (ts.take i).filter p ++ if p e = true then [e] else [] := by
  rw [List.take_add_one, h, List.filter_append]
  show _ ++ List.filter p [e] = _
  rw [List.filter_cons, List.filter_nil]
def fitD (ts : Tr) (d : Int) : Tr := ts.filter fun e => decide (Builtin.bitAnd e.2.2 d = d)
section
variable {P : Program} {w : World} {K : PySem.W.Frag} {mg : Str → Option Value} {base : Heap} {A : Ads}
set_option pp.maxSteps 200
def spDecide (A : Ads) : Sp := spCall A
theorem ok_Judge_deciding (T : Txt w K mg A) : FnOk P w K mg base (L2.CX P w) 5 A.f_Judge_deciding A.d_Judge_deciding ["self", "user", "owner", "group", "access", "letters"] (spDecide A) := by
  refine T.F_Judge_deciding.okX sc_Judge_deciding (fun vs H Q E h => ?_) (fun cdv A_ outer s_ H vs Q E hr h => ?_)
  · obtain ⟨j, p, t0, t1, t2, t3, t4, k, b, rfl, _⟩ := h
    rfl
  · obtain ⟨j, p, t0, t1, t2, t3, t4, k, b, rfl, hJ, fi, en, e4, q⟩ := h
    refine ⟨_, (pss_cons (ps_expr (pe_meth (pv 0) T.cl_Judge T.me_Judge__check (ok_Judge__check T) (hr.mono (by decide)) T.B_Judge__check .nil (pxE rfl rfl rfl rfl) (pa_cons (pv 1) (pa_cons (pv 2) (pa_cons (pv 3) (pa_cons (pv 4) pa_nil))))))
  (pss_cons (ps_set (i := 6) sc_Judge_deciding.nd rfl (.inr rfl) (pe_callS (ok_as_digit T) (hr.mono (by decide)) (by rfl) T.g_as_digit T.F_as_digit.kp T.B_as_digit (fun σ => passAt (takes_of rfl rfl rfl rfl) σ) (pa_cons (pv 5) pa_nil)))
  (pss_cons (ps_set (i := 7) sc_Judge_deciding.nd rfl (.inl rfl) (pe_call (ok__fitting T) (hr.mono (by decide)) (by rfl) T.g__fitting T.F__fitting.kp T.B__fitting .nil pass0 (pa_cons (pe_fld (pv 0) rfl) (pa_cons (pv 1) (pa_cons (pv 2) (pa_cons (pv 3) (pa_cons (pv 4) pa_nil)))))))
  (pss_cons (ps_setLc (i := 8) (own := [("kind", 9), ("name", 10), ("digit", 11)]) (g := gTup K 3 (gCons (gName 9) (gCons (gName 10) (gCons (gName 11) gNil)))) rfl sc_Judge_deciding.nd rfl rfl (sw_true rfl rfl rfl (by decide +kernel)) (pi_list (pv 7)) (blkOk_by (own := [("kind", 9), ("name", 10), ("digit", 11)]) (N := N_Judge_deciding) (sc := defScope s_Judge_deciding) (by decide +kernel)) (fun _ _ _ _ _ => (pg_tup rfl (pgs_cons (pg_name (i := 9) sc_Judge_deciding.nd rfl (.inl rfl)) (pgs_cons (pg_name (i := 10) sc_Judge_deciding.nd rfl (.inl rfl)) (pgs_cons (pg_name (i := 11) sc_Judge_deciding.nd rfl (.inl rfl)) pgs_nil))))) (fun _ _ _ _ _ => (pts_one (pt_cmpR op_eq (pe_op op_and (pv 11) (pv 6)) (pv 6) (nomark _)))) (fun _ _ _ _ _ => (pe_tupN (pa_cons (pv 9) (pa_cons (pv 10) pa_nil)))))
  (pss_cons (ps_if (pt_truth (pv 8) (by intro _; rfl)) (pss_one (ps_ret (pe_tupN (pa_cons pe_bl (pa_cons (pv 8) pa_nil))))) pss_nil)
  (pss_one (ps_ret (pe_tupN (pa_cons pe_bl (pa_cons (pe_lc (own := [("kind", 9), ("name", 10), ("digit", 11)]) (g := gTup K 3 (gCons (gName 9) (gCons (gName 10) (gCons (gName 11) gNil)))) rfl sc_Judge_deciding.nd (pi_list (pv 7)) (blkOk_by (own := [("kind", 9), ("name", 10), ("digit", 11)]) (N := N_Judge_deciding) (sc := defScope s_Judge_deciding) (by decide +kernel)) (fun _ _ _ _ _ => (pg_tup rfl (pgs_cons (pg_name (i := 9) sc_Judge_deciding.nd rfl (.inl rfl)) (pgs_cons (pg_name (i := 10) sc_Judge_deciding.nd rfl (.inl rfl)) (pgs_cons (pg_name (i := 11) sc_Judge_deciding.nd rfl (.inl rfl)) pgs_nil))))) (fun _ _ _ _ _ => pts_nil) (fun _ _ _ _ _ => (pe_tupN (pa_cons (pv 9) (pa_cons (pv 10) pa_nil))))) pa_nil)))))))))), ?_⟩
    obtain ⟨dj, hj⟩ := hJ.1
    refine ⟨_, rfl, j, dj, _, rfl, hj, rfl, _, rfl, _, rfl, _, rfl, _, rfl, ?_⟩
    refine ⟨j, p, t0, t1, t2, t3, t4, k, b, rfl, hJ, fi, en, fun k4 H1 k1 => ?_⟩
    obtain ⟨al, c, u, ho, bd, rfl, rfl, rfl, rfl, a⟩ := fi.ask hJ k4
    rcases (fi.keep k1).l4 k4 with ⟨rfl, rfl, hl⟩ | ⟨rfl, t, d, rfl, g⟩
    · refine ⟨_, rfl, _, rfl, .inr ⟨hl, (e4 rfl).mono k1⟩⟩
    have q := q rfl
    have l7 := case_len (held := mget m0 u) (u := u) (ho := ho) (bd := bd) a.pg a.ok.s.l6
    refine ⟨_, rfl, _, rfl, .inl ⟨t, d, rfl, g, ?_⟩⟩
    have a1 := a.keep k1
    refine ⟨_, rfl, j, _, dj, _, _, rfl, k1 _ _ hj (by simp), T.cl_Judge, T.na_Judge__people, rfl, ?_⟩
    refine ⟨_, rfl, _, rfl, _, rfl, _, rfl, j, p, m0, gs0, al, c, u, ho, bd, rfl, a1, fun fl H2 nfl k2 tl2 => ?_⟩
    obtain ⟨vs, h2, pv⟩ := tl2
    have lv' := Paired.length pv
    generalize caseOf (mget m0 u) c u ho bd = ts at l7 pv lv'
    have K2 := k1.trans k2
    refine ⟨_, rfl, fl, rfl, ⟨_, .inl (.inl h2)⟩, fun D hD => ?_⟩
    refine lc_it (walk_list (xs := vs)) (fun i H' => Keep [] H2 H' ∧ PL H' D (((ts.take i).filter fun e => decide (Builtin.bitAnd e.2.2 d = d)).map pr2)) ⟨keep_new hD, [], upd_same, .nil⟩ (fun i H' _ h => .inl (.inl (h.1 _ _ h2 (by simp)))) (fun i x H3 H4 hi h3 y => ?_) (fun H3 h3 => ?_)
    · obtain ⟨rfl, hx⟩ := y
      obtain ⟨k3, ws, hD3, pw⟩ := h3
      obtain ⟨e, he, t, rfl, ht⟩ := tl_get pv hx
      refine ⟨t, _, rfl, .inl (.inl (k3 _ _ ht (by simp))), rfl, ?_⟩
      walk_at "rd"
      show if decide (V.int (Builtin.bitAnd e.2.2 d) = V.int d) = true then _ else _
      rw [show decide (V.int (Builtin.bitAnd e.2.2 d) = V.int d) = decide (Builtin.bitAnd e.2.2 d = d) by simp]
      refine ifB (fun c => ?_) (fun c => ?_)
      · refine ⟨_, rfl, _, rfl, (show 2 ≤ sizeLine by decide), NewO.mk fun t7 H7 n7 k7 h7 => ?_⟩
        have hD7 := k7 _ _ hD3 (by simp)
        have lws : ws.length ≤ 7 := by
          rw [Paired.length pw, List.length_map]
          have h1 := List.length_filter_le (fun e => decide (Builtin.bitAnd e.2.2 d = d)) (ts.take i)
          have h2 := List.length_take_le' i ts
          omega
        refine ⟨_, hD7, size_ok (by omega), keep_free (k3.trans k7) hD, ws ++ [.ref t7], upd_same, ?_⟩
        rw [filt_snocT he, if_pos c, List.map_append]
        exact paired_snoc (Paired.mapP pw fun _ _ r => PV.put (PV.keep r k7) hD7 (fun _ z => by cases z)) (PV.put ⟨t7, rfl, h7⟩ hD7 (fun _ z => by cases z))
      · refine ⟨k3, ws, hD3, ?_⟩
        rw [filt_snocT he, if_neg (by rw [c]; exact Bool.false_ne_true), List.append_nil]
        exact pw
    · obtain ⟨k3, ws, hD3, pw⟩ := h3
      rw [lv', List.take_length] at pw
      change Paired (PV H3) ws ((fitD ts d).map pr2) at pw
      have K3 := K2.trans k3
      have nD : H D = none := K2.free hD
      refine ⟨_, rfl, !ws.isEmpty, .inl ⟨ws, .inl (.inl hD3), rfl⟩, ?_⟩
      have we : (!ws.isEmpty) = !decide (fitD ts d = []) := by
        have h := Paired.length pw
        rw [List.length_map] at h
        cases hf : fitD ts d with
        | nil =>
          rw [hf] at h
          rw [List.length_eq_zero_iff.mp h]
          rfl
        | cons e r =>
          rw [hf] at h
          cases ws with
          | nil => cases h
          | cons _ _ => rfl
      rw [we]
      refine ifN (fun e => ?_) (fun e => ?_)
      · refine ⟨_, rfl, (show 2 ≤ sizeLine by decide), NewO.mk fun t8 H8 n8 k8 h8 => ?_⟩
        exact q _ H8 (K3.trans k8)
      · have h3' := k3 _ _ h2 (by simp)
        refine ⟨_, rfl, fl, rfl, ⟨_, .inl (.inl h3')⟩, fun D2 hD2 => ?_⟩
        refine lc_it (walk_list (xs := vs)) (fun i H' => Keep [] H3 H' ∧ PL H' D2 ((ts.take i).map pr2)) ⟨keep_new hD2, [], upd_same, .nil⟩ (fun i H' _ h => .inl (.inl (h.1 _ _ h3' (by simp)))) (fun i x H4 H5 hi h4 y => ?_) (fun H4 h4 => ?_)
        · obtain ⟨rfl, hx⟩ := y
          obtain ⟨k4, us, hD4, pu⟩ := h4
          obtain ⟨e, he, t, rfl, ht⟩ := tl_get pv hx
          refine ⟨t, _, rfl, .inl (.inl ((k3.trans k4) _ _ ht (by simp))), rfl, ?_⟩
          walk_at "rd"
          refine ⟨(show 2 ≤ sizeLine by decide), NewO.mk fun t7 H7 n7 k7 h7 => ?_⟩
          have hD7 := k7 _ _ hD4 (by simp)
          have lus : us.length ≤ 7 := by
            rw [Paired.length pu, List.length_map]
            have h2 := List.length_take_le' i ts
            omega
          refine ⟨_, hD7, size_ok (by omega), keep_free (k4.trans k7) hD2, us ++ [.ref t7], upd_same, ?_⟩
          rw [take_map_snoc he]
          exact paired_snoc (Paired.mapP pu fun _ _ r => PV.put (PV.keep r k7) hD7 (fun _ z => by cases z)) (PV.put ⟨t7, rfl, h7⟩ hD7 (fun _ z => by cases z))
        · obtain ⟨k4, us, hD4, pu⟩ := h4
          rw [lv', List.take_length] at pu
          refine ⟨(show 2 ≤ sizeLine by decide), NewO.mk fun t8 H8 n8 k8 h8 => ?_⟩
          have K4 := K3.trans k4
          exact q _ H8 (K4.trans k8)
end
end K28
namespace K28
open PySem PySem.Spec PyProof.Rows L2 FR TL
open C8 (pss_cut pe_gc)
open StX (pe_callS2 pa_star)
section
variable {P : Program} {w : World} {K : PySem.W.Frag} {mg : Str → Option Value} {base : Heap} {A : Ads}
set_option pp.maxSteps 300
/-- what is wrong at this place of the five -/
def BadAt (H : Hp) (at_ : Int) (v : V) : Prop := (∃ e, Odd H v e ∧ (at_ = 4 → letD e = none)) ∧ (at_ = 0 → isU v = false) ∧ (at_ = 1 → isO v = false) ∧ (at_ = 2 → isG v = false)
theorem lst_at {H : Hp} {p : Addr} {xs : List V} {d k : Int} (_ : H p = some (.lst xs)) (hl : (xs.length : Int) = k) (h0 : 0 ≤ d) (h1 : d < k) : ∃ v, atI xs d = some v ∧ v ∈ xs := atI_in h0 (by omega)
theorem no_str {v : V} (h : ∀ b, v ≠ .str b) : isU v = false ∧ isO v = false ∧ isG v = false := by
  have u : ∀ l : List Str, (l.any fun b => isT v b) = false := fun l => List.any_eq_false.mpr fun b _ => by rw [isT, decide_eq_false (h b)]; exact Bool.false_ne_true
  have r : isT v root = false := decide_eq_false (h root)
  exact ⟨u _, by rw [isO, r]; exact u _, by rw [isG, r]; exact u _⟩
theorem bad0 {H : Hp} {v : V} {e : PyData} (h : Odd H v e) (u : isU v = false) : BadAt H 0 v := ⟨⟨_, h, fun z => absurd z (by decide)⟩, fun _ => u, fun z => absurd z (by decide), fun z => absurd z (by decide)⟩
theorem bad1 {H : Hp} {v : V} {e : PyData} (h : Odd H v e) (u : isO v = false) : BadAt H 1 v := ⟨⟨_, h, fun z => absurd z (by decide)⟩, fun z => absurd z (by decide), fun _ => u, fun z => absurd z (by decide)⟩
theorem bad2 {H : Hp} {v : V} {e : PyData} (h : Odd H v e) (u : isG v = false) : BadAt H 2 v := ⟨⟨_, h, fun z => absurd z (by decide)⟩, fun z => absurd z (by decide), fun z => absurd z (by decide), fun _ => u⟩
theorem bad3 {H : Hp} {v : V} {e : PyData} (h : Odd H v e) : BadAt H 3 v := ⟨⟨_, h, fun z => absurd z (by decide)⟩, fun z => absurd z (by decide), fun z => absurd z (by decide), fun z => absurd z (by decide)⟩
theorem bad4 {H : Hp} {v : V} {e : PyData} (h : Odd H v e) (l : letD e = none) : BadAt H 4 v := ⟨⟨_, h, fun _ => l⟩, fun z => absurd z (by decide), fun z => absurd z (by decide), fun z => absurd z (by decide)⟩
def spBad : Sp := fun vs H Q _ => ∃ (b : Addr) (n : Nat) (x y z at_ : Int), vs = [.ref b, .int at_] ∧ H b = some (bagO x y z) ∧ BagOk n x y z ∧ n < 1000000 ∧ 0 ≤ at_ ∧ at_ ≤ 4 ∧
  ∀ (v : V) (x' y' z' : Int) (H' : Hp), BagOk (n + 1) x' y' z' → Keep [b] H H' → H' b = some (bagO x' y' z') → BadAt H' at_ v → (∀ a, v = .ref a → H a = none) → Q v H'
theorem ok_bad (T : Txt w K mg A) : FnOk P w K mg base CX0 2 A.f_bad A.d_bad ["_law_bag_here", "_law_at"] spBad := by
  refine T.F_bad.ok sc_bad (fun vs H Q E h => ?_) (fun cdv A_ outer s H vs Q E hr h => ?_)
  · obtain ⟨b, n, x, y, z, at_, rfl, _⟩ := h
    rfl
  · obtain ⟨b, n, x, y, z, at_, rfl, hb, ok, hn, a0, a4, q⟩ := h
    have W := Ow.start1 hb
    refine ⟨_, (pss_cons (ps_if (pt_cmpR op_lt (pv 1) pe_int (nomark _)) (pss_cons (ps_set (i := 2) sc_bad.nd rfl (.inl rfl) (pe_lstS (pa_cons pe_str (pa_cons pe_str (pa_cons pe_non (pa_cons pe_int (pa_cons (pe_lstS pa_nil) (pa_cons (pe_tupN (pa_cons pe_str pa_nil)) (pa_cons pe_dnewN (pa_cons pe_str (pa_cons (pe_ix ix_list (pe_lstS (pa_cons pe_str (pa_cons pe_str (pa_cons pe_str pa_nil)))) (pv 1) (fun _ _ => rfl)) (pa_cons pe_bl pa_nil))))))))))))
  (pss_one (ps_ret (pe_ix ix_list (pe_op op_catN (pv 2) (pe_lstS (pa_cons (pe_ix ix_list (pe_lstS (pa_cons pe_str (pa_cons pe_str (pa_cons pe_str pa_nil)))) (pv 1) (fun _ _ => rfl)) pa_nil))) (pe_call (ok_take T) (hr.mono (by decide)) (by rfl) T.g_take T.F_take.kp T.B_take .nil pass0 (pa_cons (pv 0) (pa_cons pe_int pa_nil))) (fun _ _ => rfl))))) pss_nil)
  (pss_cons (ps_if (pt_cmpR op_eq (pv 1) pe_int (nomark _)) (pss_one (ps_ret (pe_ix ix_list (pe_lstS (pa_cons pe_non (pa_cons pe_str (pa_cons pe_str (pa_cons pe_int (pa_cons (pe_lstS pa_nil) (pa_cons pe_dnewN (pa_cons (pe_tupN pa_nil) (pa_cons pe_bl (pa_cons pe_str (pa_cons (pe_tupN (pa_cons pe_str pa_nil)) pa_nil))))))))))) (pe_call (ok_take T) (hr.mono (by decide)) (by rfl) T.g_take T.F_take.kp T.B_take .nil pass0 (pa_cons (pv 0) (pa_cons pe_int pa_nil))) (fun _ _ => rfl)))) pss_nil)
  (pss_one (ps_ret (pe_ix ix_list (pe_lstS (pa_cons pe_str (pa_cons pe_str (pa_cons pe_str (pa_cons pe_non (pa_cons pe_int (pa_cons (pe_lstS (pa_cons pe_str pa_nil)) (pa_cons (pe_tupN (pa_cons pe_str pa_nil)) (pa_cons pe_dnewN (pa_cons pe_str (pa_cons pe_bl pa_nil))))))))))) (pe_call (ok_take T) (hr.mono (by decide)) (by rfl) T.g_take T.F_take.kp T.B_take .nil pass0 (pa_cons (pv 0) (pa_cons pe_int pa_nil))) (fun _ _ => rfl)))))), ?_⟩
    have : at_ = 0 ∨ at_ = 1 ∨ at_ = 2 ∨ at_ = 3 ∨ at_ = 4 := by omega
    rcases this with rfl | rfl | rfl | rfl | rfl
    · walk_at "rd"
      rename_i p1 H1 np1 sp1 kp1 hp1 W1 p2 H2 np2 kp2 hp2 W2 p3 H3 np3 kp3 hp3 W3 p4 H4 np4 sp4 kp4 hp4 W4 p5 H5 np5 sp5 kp5 hp5 W5 p6 H6 np6 sp6 kp6 hp6 W6 p7 H7 np7 sp7 kp7 hp7 W7
      refine ⟨_, _, _, _, rfl, rfl, W7.get 2 rfl, W7.get 0 rfl, size_ok (Nat.le_of_ble_eq_true rfl), ?_⟩
      walk_at "obj"
      rename_i p8 H8 np8 kp8 hp8 W8
      walk_at "rd"
      walk_at "take"
      rename_i d x2 y2 z2 H9 d0 d1 ok2 kp9 hb9 W9
      obtain ⟨v, hv, hm⟩ := lst_at (W9.get 0 rfl) rfl d0 d1
      refine ⟨_, _, _, _, rfl, rfl, W9.sq 0 rfl, hv, ?_⟩
      have fin : ∀ e, Odd H9 v e → isU v = false → (∀ a, v = .ref a → H a = none) → Q v H9 := fun e he u f => q v x2 y2 z2 H9 ok2 W9.keep hb9 (bad0 he u) f
      show Q v H9
      have st : ∀ s : Str, v = .str s → okB (.str s) = true → isU (.str s) = false → Q v H9 := fun s e h1 h2 => by
        subst e
        exact fin _ ⟨.str s, h1⟩ h2 (fun a e => by cases e)
      have k12 := kp1.trans kp2
      simp only [List.cons_append, List.nil_append, List.mem_cons, List.not_mem_nil, or_false] at hm
      rcases hm with hm | hm | rfl | rfl | rfl | rfl | rfl | hm | hm | rfl | hm
      · exact st _ hm (by decide +kernel) (by decide +kernel)
      · exact st _ hm (by decide +kernel) (by decide +kernel)
      · exact fin _ ⟨.non, by decide +kernel⟩ (by decide +kernel) (fun a e => by cases e)
      · exact fin _ ⟨.int _, by decide +kernel⟩ (by decide +kernel) (fun a e => by cases e)
      · exact fin _ ⟨.lst (ws := []) (W9.get 7 rfl) sp1, by decide +kernel⟩ (no_str fun _ z => by cases z).1 (fun a e => by cases e; exact np1)
      · exact fin _ ⟨.tup (ws := ["ann"]) (W9.get 6 rfl), by decide +kernel⟩ (no_str fun _ z => by cases z).1 (fun a e => by cases e; exact kp1.free np2)
      · exact fin _ ⟨.dc0 (W9.get 5 rfl), by decide +kernel⟩ (no_str fun _ z => by cases z).1 (fun a e => by cases e; exact k12.free np3)
      · exact st _ hm (by decide +kernel) (by decide +kernel)
      · exact st _ hm (by decide +kernel) (by decide +kernel)
      · exact fin _ ⟨.bl _, by decide +kernel⟩ (by decide +kernel) (fun a e => by cases e)
      · exact st _ hm (by decide +kernel) (by decide +kernel)
    · walk_at "rd"
      rename_i p1 H1 np1 sp1 kp1 hp1 W1 p2 H2 np2 kp2 hp2 W2 p3 H3 np3 kp3 hp3 W3 p4 H4 np4 sp4 kp4 hp4 W4 p5 H5 np5 sp5 kp5 hp5 W5 p6 H6 np6 sp6 kp6 hp6 W6 p7 H7 np7 sp7 kp7 hp7 W7
      refine ⟨_, _, _, _, rfl, rfl, W7.get 2 rfl, W7.get 0 rfl, size_ok (Nat.le_of_ble_eq_true rfl), ?_⟩
      walk_at "obj"
      rename_i p8 H8 np8 kp8 hp8 W8
      walk_at "rd"
      walk_at "take"
      rename_i d x2 y2 z2 H9 d0 d1 ok2 kp9 hb9 W9
      obtain ⟨v, hv, hm⟩ := lst_at (W9.get 0 rfl) rfl d0 d1
      refine ⟨_, _, _, _, rfl, rfl, W9.sq 0 rfl, hv, ?_⟩
      have fin : ∀ e, Odd H9 v e → isO v = false → (∀ a, v = .ref a → H a = none) → Q v H9 := fun e he u f => q v x2 y2 z2 H9 ok2 W9.keep hb9 (bad1 he u) f
      show Q v H9
      have st : ∀ s : Str, v = .str s → okB (.str s) = true → isO (.str s) = false → Q v H9 := fun s e h1 h2 => by
        subst e
        exact fin _ ⟨.str s, h1⟩ h2 (fun a e => by cases e)
      have k12 := kp1.trans kp2
      simp only [List.cons_append, List.nil_append, List.mem_cons, List.not_mem_nil, or_false] at hm
      rcases hm with hm | hm | rfl | rfl | rfl | rfl | rfl | hm | hm | rfl | hm
      · exact st _ hm (by decide +kernel) (by decide +kernel)
      · exact st _ hm (by decide +kernel) (by decide +kernel)
      · exact fin _ ⟨.non, by decide +kernel⟩ (by decide +kernel) (fun a e => by cases e)
      · exact fin _ ⟨.int _, by decide +kernel⟩ (by decide +kernel) (fun a e => by cases e)
      · exact fin _ ⟨.lst (ws := []) (W9.get 7 rfl) sp1, by decide +kernel⟩ (no_str fun _ z => by cases z).2.1 (fun a e => by cases e; exact np1)
      · exact fin _ ⟨.tup (ws := ["ann"]) (W9.get 6 rfl), by decide +kernel⟩ (no_str fun _ z => by cases z).2.1 (fun a e => by cases e; exact kp1.free np2)
      · exact fin _ ⟨.dc0 (W9.get 5 rfl), by decide +kernel⟩ (no_str fun _ z => by cases z).2.1 (fun a e => by cases e; exact k12.free np3)
      · exact st _ hm (by decide +kernel) (by decide +kernel)
      · exact st _ hm (by decide +kernel) (by decide +kernel)
      · exact fin _ ⟨.bl _, by decide +kernel⟩ (by decide +kernel) (fun a e => by cases e)
      · exact st _ hm (by decide +kernel) (by decide +kernel)
    · walk_at "rd"
      rename_i p1 H1 np1 sp1 kp1 hp1 W1 p2 H2 np2 kp2 hp2 W2 p3 H3 np3 kp3 hp3 W3 p4 H4 np4 sp4 kp4 hp4 W4 p5 H5 np5 sp5 kp5 hp5 W5 p6 H6 np6 sp6 kp6 hp6 W6 p7 H7 np7 sp7 kp7 hp7 W7
      refine ⟨_, _, _, _, rfl, rfl, W7.get 2 rfl, W7.get 0 rfl, size_ok (Nat.le_of_ble_eq_true rfl), ?_⟩
      walk_at "obj"
      rename_i p8 H8 np8 kp8 hp8 W8
      walk_at "rd"
      walk_at "take"
      rename_i d x2 y2 z2 H9 d0 d1 ok2 kp9 hb9 W9
      obtain ⟨v, hv, hm⟩ := lst_at (W9.get 0 rfl) rfl d0 d1
      refine ⟨_, _, _, _, rfl, rfl, W9.sq 0 rfl, hv, ?_⟩
      have fin : ∀ e, Odd H9 v e → isG v = false → (∀ a, v = .ref a → H a = none) → Q v H9 := fun e he u f => q v x2 y2 z2 H9 ok2 W9.keep hb9 (bad2 he u) f
      show Q v H9
      have st : ∀ s : Str, v = .str s → okB (.str s) = true → isG (.str s) = false → Q v H9 := fun s e h1 h2 => by
        subst e
        exact fin _ ⟨.str s, h1⟩ h2 (fun a e => by cases e)
      have k12 := kp1.trans kp2
      simp only [List.cons_append, List.nil_append, List.mem_cons, List.not_mem_nil, or_false] at hm
      rcases hm with hm | hm | rfl | rfl | rfl | rfl | rfl | hm | hm | rfl | hm
      · exact st _ hm (by decide +kernel) (by decide +kernel)
      · exact st _ hm (by decide +kernel) (by decide +kernel)
      · exact fin _ ⟨.non, by decide +kernel⟩ (by decide +kernel) (fun a e => by cases e)
      · exact fin _ ⟨.int _, by decide +kernel⟩ (by decide +kernel) (fun a e => by cases e)
      · exact fin _ ⟨.lst (ws := []) (W9.get 7 rfl) sp1, by decide +kernel⟩ (no_str fun _ z => by cases z).2.2 (fun a e => by cases e; exact np1)
      · exact fin _ ⟨.tup (ws := ["ann"]) (W9.get 6 rfl), by decide +kernel⟩ (no_str fun _ z => by cases z).2.2 (fun a e => by cases e; exact kp1.free np2)
      · exact fin _ ⟨.dc0 (W9.get 5 rfl), by decide +kernel⟩ (no_str fun _ z => by cases z).2.2 (fun a e => by cases e; exact k12.free np3)
      · exact st _ hm (by decide +kernel) (by decide +kernel)
      · exact st _ hm (by decide +kernel) (by decide +kernel)
      · exact fin _ ⟨.bl _, by decide +kernel⟩ (by decide +kernel) (fun a e => by cases e)
      · exact st _ hm (by decide +kernel) (by decide +kernel)
    · walk_at "rd"
      rename_i p1 H1 np1 sp1 kp1 hp1 W1 p2 H2 np2 kp2 hp2 W2 p3 H3 np3 kp3 hp3 W3 p4 H4 np4 kp4 hp4 W4 p5 H5 np5 sp5 kp5 hp5 W5
      walk_at "take"
      rename_i d x2 y2 z2 H9 d0 d1 ok2 kp9 hb9 W9
      obtain ⟨v, hv, hm⟩ := lst_at (W9.get 0 rfl) rfl d0 d1
      refine ⟨_, _, _, _, rfl, rfl, W9.sq 0 rfl, hv, ?_⟩
      have fin : ∀ e, Odd H9 v e → (∀ a, v = .ref a → H a = none) → Q v H9 := fun e he f => q v x2 y2 z2 H9 ok2 W9.keep hb9 (bad3 he) f
      show Q v H9
      have st : ∀ s : Str, v = .str s → okB (.str s) = true → Q v H9 := fun s e h1 => by
        subst e
        exact fin _ ⟨.str s, h1⟩ (fun a e => by cases e)
      have k12 := kp1.trans kp2
      have k13 := k12.trans kp3
      simp only [List.mem_cons, List.not_mem_nil, or_false] at hm
      rcases hm with rfl | hm | hm | rfl | rfl | rfl | rfl | rfl | hm | rfl
      · exact fin _ ⟨.non, by decide +kernel⟩ (fun a e => by cases e)
      · exact st _ hm (by decide +kernel)
      · exact st _ hm (by decide +kernel)
      · exact fin _ ⟨.int _, by decide +kernel⟩ (fun a e => by cases e)
      · exact fin _ ⟨.lst (ws := []) (W9.get 4 rfl) sp1, by decide +kernel⟩ (fun a e => by cases e; exact np1)
      · exact fin _ ⟨.dc0 (W9.get 3 rfl), by decide +kernel⟩ (fun a e => by cases e; exact kp1.free np2)
      · exact fin _ ⟨.tup (ws := []) (W9.get 2 rfl), by decide +kernel⟩ (fun a e => by cases e; exact k12.free np3)
      · exact fin _ ⟨.bl _, by decide +kernel⟩ (fun a e => by cases e)
      · exact st _ hm (by decide +kernel)
      · exact fin _ ⟨.tup (ws := ["rwx"]) (W9.get 1 rfl), by decide +kernel⟩ (fun a e => by cases e; exact k13.free np4)
    · walk_at "rd"
      rename_i p1 H1 np1 sp1 kp1 hp1 W1 p2 H2 np2 kp2 hp2 W2 p3 H3 np3 kp3 hp3 W3 p5 H5 np5 sp5 kp5 hp5 W5
      walk_at "take"
      rename_i d x2 y2 z2 H9 d0 d1 ok2 kp9 hb9 W9
      obtain ⟨v, hv, hm⟩ := lst_at (W9.get 0 rfl) rfl d0 d1
      refine ⟨_, _, _, _, rfl, rfl, W9.sq 0 rfl, hv, ?_⟩
      have fin : ∀ e, Odd H9 v e → letD e = none → (∀ a, v = .ref a → H a = none) → Q v H9 := fun e he l f => q v x2 y2 z2 H9 ok2 W9.keep hb9 (bad4 he l) f
      show Q v H9
      have st : ∀ s : Str, v = .str s → okB (.str s) = true → letD (.str s) = none → Q v H9 := fun s e h1 h2 => by
        subst e
        exact fin _ ⟨.str s, h1⟩ h2 (fun a e => by cases e)
      have k12 := kp1.trans kp2
      simp only [List.mem_cons, List.not_mem_nil, or_false] at hm
      rcases hm with hm | hm | hm | rfl | rfl | rfl | rfl | rfl | hm | rfl
      · exact st _ hm (by decide +kernel) (by decide +kernel)
      · exact st _ hm (by decide +kernel) (by decide +kernel)
      · exact st _ hm (by decide +kernel) (by decide +kernel)
      · exact fin _ ⟨.non, by decide +kernel⟩ rfl (fun a e => by cases e)
      · exact fin _ ⟨.int _, by decide +kernel⟩ rfl (fun a e => by cases e)
      · exact fin _ ⟨.lst (ws := ["r"]) (W9.get 3 rfl) sp1, by decide +kernel⟩ rfl (fun a e => by cases e; exact np1)
      · exact fin _ ⟨.tup (ws := ["r"]) (W9.get 2 rfl), by decide +kernel⟩ rfl (fun a e => by cases e; exact kp1.free np2)
      · exact fin _ ⟨.dc0 (W9.get 1 rfl), by decide +kernel⟩ rfl (fun a e => by cases e; exact k12.free np3)
      · exact st _ hm (by decide +kernel) (by decide +kernel)
      · exact fin _ ⟨.bl _, by decide +kernel⟩ rfl (fun a e => by cases e)
end
end K28
namespace K28
open PySem PySem.Spec PyProof.Rows L2 FR TL
open C8 (pss_cut pe_gc)
open StX (pe_callS2 pa_star)
section
variable {P : Program} {w : World} {K : PySem.W.Frag} {mg : Str → Option Value} {base : Heap} {A : Ads}
set_option pp.maxSteps 300
def spAsked (A : Ads) : Sp := fun vs H Q E => ∃ (j p tl : Addr) (t0 t1 t2 t3 t4 : V) (way : Int) (k : Nat) (b : V), vs = [.ref j, .int way, .ref tl] ∧ 0 ≤ way ∧ way ≤ 2 ∧ H tl = some (.lst [t0, t1, t2, t3, t4]) ∧ Jd A H j p ∧ First A H t0 t1 t2 t3 t4 k b ∧
  Ends A k b E H ∧ (k = 4 → way ≠ 2 → Out A.C_InvalidRights b E H) ∧ ((k = 5 ∨ (k = 4 ∧ way = 2)) → ∀ H', Keep [] H H' → Q .non H')
theorem ok_asked (T : Txt w K mg A) : FnOk P w K mg base (L2.CX P w) 7 A.f_asked A.d_asked ["_law_judge", "_law_way", "_law_things"] (spAsked A) := by
  refine T.F_asked.okX sc_asked (fun vs H Q E h => ?_) (fun cdv A_ outer s_ H vs Q E hr h => ?_)
  · obtain ⟨j, p, tl, t0, t1, t2, t3, t4, way, k, b, rfl, _⟩ := h
    rfl
  · obtain ⟨j, p, tl, t0, t1, t2, t3, t4, way, k, b, rfl, w0, w2, htl, hJ, fi, en, e4, q⟩ := h
    have a0 : atI [t0, t1, t2, t3, t4] 0 = some t0 := atI_nat (j := 0) rfl
    have a1 : atI [t0, t1, t2, t3, t4] 1 = some t1 := atI_nat (j := 1) rfl
    have a2 : atI [t0, t1, t2, t3, t4] 2 = some t2 := atI_nat (j := 2) rfl
    have a3 : atI [t0, t1, t2, t3, t4] 3 = some t3 := atI_nat (j := 3) rfl
    have a4 : atI [t0, t1, t2, t3, t4] 4 = some t4 := atI_nat (j := 4) rfl
    have sq : SqL K H tl [t0, t1, t2, t3, t4] := .inl (.inl htl)
    obtain ⟨⟨dj, hj⟩, hp⟩ := id hJ
    have k45 : k = 4 ∨ k = 5 ∨ k < 4 := by cases fi <;> simp
    have hge : 4 ≤ k → k = 4 ∨ k = 5 := by omega
    refine ⟨_, (pss_one (ps_if (pt_cmpR op_eq (pv 1) pe_int (nomark _)) (pss_one (ps_expr (pe_inst (pv 0) (CallsBy.mk T.me_Judge___call__.at_ T.me_Judge___call__.fn (fn_of T.F_Judge___call__)) (ok_Judge___call__ T) (hr.mono (by decide)) T.B_Judge___call__ .nil (pxE rfl rfl rfl rfl) (pa_cons (pe_ix ix_list (pv 2) pe_int (fun _ _ => rfl)) (pa_cons (pe_ix ix_list (pv 2) pe_int (fun _ _ => rfl)) (pa_cons (pe_ix ix_list (pv 2) pe_int (fun _ _ => rfl)) (pa_cons (pe_ix ix_list (pv 2) pe_int (fun _ _ => rfl)) (pa_cons (pe_ix ix_list (pv 2) pe_int (fun _ _ => rfl)) pa_nil)))))))) (pss_one (ps_if (pt_cmpR op_eq (pv 1) pe_int (nomark _)) (pss_one (ps_expr (pe_meth (pv 0) T.cl_Judge T.me_Judge_deciding (ok_Judge_deciding T) (hr.mono (by decide)) T.B_Judge_deciding .nil (pxE rfl rfl rfl rfl) (pa_cons (pe_ix ix_list (pv 2) pe_int (fun _ _ => rfl)) (pa_cons (pe_ix ix_list (pv 2) pe_int (fun _ _ => rfl)) (pa_cons (pe_ix ix_list (pv 2) pe_int (fun _ _ => rfl)) (pa_cons (pe_ix ix_list (pv 2) pe_int (fun _ _ => rfl)) (pa_cons (pe_ix ix_list (pv 2) pe_int (fun _ _ => rfl)) pa_nil)))))))) (pss_one (ps_expr (pe_meth (pv 0) T.cl_Judge T.me_Judge_letters_of (ok_Judge_letters_of T) (hr.mono (by decide)) T.B_Judge_letters_of .nil (pxE rfl rfl rfl rfl) (pa_cons (pe_ix ix_list (pv 2) pe_int (fun _ _ => rfl)) (pa_cons (pe_ix ix_list (pv 2) pe_int (fun _ _ => rfl)) (pa_cons (pe_ix ix_list (pv 2) pe_int (fun _ _ => rfl)) (pa_cons (pe_ix ix_list (pv 2) pe_int (fun _ _ => rfl)) pa_nil))))))))))), ?_⟩
    walk_at "rd"
    refine ifVI (fun c0 => ?_) (fun c0 => ?_)
    · walk_at "rd"
      refine ⟨⟨dj, _, hj⟩, j, p, t0, t1, t2, t3, t4, k, b, rfl, hJ, fi, en, fun e => e4 e (by omega), fun k5 v H' k' => ?_⟩
      exact q (.inl k5) H' k'
    walk_at "rd"
    refine ifVI (fun c1 => ?_) (fun c1 => ?_)
    · walk_at "rd"
      refine ⟨j, dj, _, rfl, hj, rfl, ?_⟩
      walk_at "rd"
      refine ⟨j, p, t0, t1, t2, t3, t4, k, b, rfl, hJ, fi, en, fun e => e4 e (by omega), fun k5 v H' k' => ?_⟩
      exact q (.inl k5) H' k'
    · walk_at "rd"
      refine ⟨j, dj, _, rfl, hj, rfl, ?_⟩
      walk_at "rd"
      refine ⟨j, p, t0, t1, t2, t3, t4, k, b, rfl, hJ, fi, en, fun h4 v H' k' => ?_⟩
      exact q (by rcases hge h4 with z | z; exact .inr ⟨z, by omega⟩; exact .inl z) H' k'
/-- what asking brings, as a list -/
def Told (k : Nat) (way : Int) (b : V) (Q : VK) (H : Hp) : Prop := (k = 0 ∨ k = 1 → NewS (.lst [.str (Str.ofString "user"), b, .bl true]) Q H) ∧ (k = 2 → NewS (.lst [.str (Str.ofString "group"), b, .bl true]) Q H) ∧ (k = 3 → NewS (.lst [.str (Str.ofString "list"), b, .bl true]) Q H) ∧
  (k = 4 → way ≠ 2 → NewS (.lst [.str (Str.ofString "rights"), b, .bl true]) Q H) ∧ ((k = 5 ∨ (k = 4 ∧ way = 2)) → NewS (.lst [.str (Str.ofString "good")]) Q H)
def spTried (A : Ads) : Sp := fun vs H Q _ => ∃ (j p tl : Addr) (t0 t1 t2 t3 t4 : V) (way : Int) (k : Nat) (b : V), vs = [.ref j, .int way, .ref tl] ∧ 0 ≤ way ∧ way ≤ 2 ∧ H tl = some (.lst [t0, t1, t2, t3, t4]) ∧ Jd A H j p ∧ First A H t0 t1 t2 t3 t4 k b ∧ Told k way b Q H
theorem ok_tried (T : Txt w K mg A) : FnOk P w K mg base CX0 8 A.f_tried A.d_tried ["_law_judge", "_law_way", "_law_things"] (spTried A) := by
  refine T.F_tried.ok sc_tried (fun vs H Q E h => ?_) (fun cdv A_ outer s_ H vs Q E hr h => ?_)
  · obtain ⟨j, p, tl, t0, t1, t2, t3, t4, way, k, b, rfl, _⟩ := h
    rfl
  · obtain ⟨j, p, tl, t0, t1, t2, t3, t4, way, k, b, rfl, w0, w2, htl, hJ, fi, q01, q2, q3, q4, q5⟩ := h
    have W : Ow H [] H [] := Ow.start0
    refine ⟨_, (pss_cons (ps_try_asM (i := 3) rfl rfl sc_tried.nd rfl rfl (fun W pn xe tk _ => (pss_one (ps_expr (pe_callS (ok_asked T) (hr.mono (by decide)) (by rfl) T.g_asked T.F_asked.kp T.B_asked (fun σ => passAt tk σ) (pa_cons (pv 0) (pa_cons (pv 1) (pa_cons (pv 2) pa_nil)))))))
  (ClausesOk.cons ⟨rfl, by decide, .inl T.low_UnknownUser.gC⟩ (fun a oe cls d pn hz hf => (pss_one (ps_ret (pe_lstS (pa_cons pe_str (pa_cons (pe_byNam T.low_UnknownUser hz hf (pv 3)) (pa_cons (pe_and (pe_callB (call_isH hz hf) (by rfl) T.b_isinstance (by decide +kernel) (pa_cons (pv 3) (pa_cons (pe_gc rfl T.c_MissingError) pa_nil))) (pe_one (pe_not (pe_callB (call_isH hz hf) (by rfl) T.b_isinstance (by decide +kernel) (pa_cons (pv 3) (pa_cons (pe_gc rfl T.c_UnknownGroup) pa_nil)))))) pa_nil)))))))
  (ClausesOk.cons ⟨rfl, by decide, .inl T.low_UnknownGroup.gC⟩ (fun a oe cls d pn hz hf => (pss_one (ps_ret (pe_lstS (pa_cons pe_str (pa_cons (pe_byNam T.low_UnknownGroup hz hf (pv 3)) (pa_cons (pe_and (pe_callB (call_isH hz hf) (by rfl) T.b_isinstance (by decide +kernel) (pa_cons (pv 3) (pa_cons (pe_gc rfl T.c_MissingError) pa_nil))) (pe_one (pe_not (pe_callB (call_isH hz hf) (by rfl) T.b_isinstance (by decide +kernel) (pa_cons (pv 3) (pa_cons (pe_gc rfl T.c_RightsError) pa_nil)))))) pa_nil)))))))
  (ClausesOk.cons ⟨rfl, by decide, .inl T.low_InvalidList.gC⟩ (fun a oe cls d pn hz hf => (pss_one (ps_ret (pe_lstS (pa_cons pe_str (pa_cons (pe_byLow T.low_InvalidList hz hf (pv 3)) (pa_cons (pe_and (pe_callB (call_isH hz hf) (by rfl) T.b_isinstance (by decide +kernel) (pa_cons (pv 3) (pa_cons (pe_gc rfl T.c_RightsError) pa_nil))) (pe_one (pe_not (pe_callB (call_isH hz hf) (by rfl) T.b_isinstance (by decide +kernel) (pa_cons (pv 3) (pa_cons (pe_gc rfl T.c_InvalidRights) pa_nil)))))) pa_nil)))))))
  (ClausesOk.cons ⟨rfl, by decide, .inl T.low_InvalidRights.gC⟩ (fun a oe cls d pn hz hf => (pss_one (ps_ret (pe_lstS (pa_cons pe_str (pa_cons (pe_byLow T.low_InvalidRights hz hf (pv 3)) (pa_cons (pe_and (pe_callB (call_isH hz hf) (by rfl) T.b_isinstance (by decide +kernel) (pa_cons (pv 3) (pa_cons (pe_gc rfl T.c_RightsError) pa_nil))) (pe_one (pe_not (pe_callB (call_isH hz hf) (by rfl) T.b_isinstance (by decide +kernel) (pa_cons (pv 3) (pa_cons (pe_gc rfl T.c_MissingError) pa_nil)))))) pa_nil)))))))
  ClausesOk.nil)))))
  (pss_one (ps_ret (pe_lstS (pa_cons pe_str pa_nil))))), ?_⟩
    walk_at "rd"
    refine ⟨j, p, tl, t0, t1, t2, t3, t4, way, k, b, rfl, w0, w2, htl, hJ, fi, ⟨fun e d H1 k1 e1 => ?_, fun e d H1 k1 e1 => ?_, fun e d H1 k1 e1 => ?_⟩, fun e e2 d H1 k1 e1 => ?_, fun e H1 k1 => ?_⟩
    · refine ⟨true, T.low_UnknownUser.te, fun _ a0 ha => ?_, fun z => Bool.noConfusion z⟩
      have q := q01 e
      have W1 := W.call0 k1
      walk_at "rd"
      refine ⟨d, b, rfl, e1, ?_⟩
      walk_at "rd"
      refine ⟨_, _, _, _, ⟨rfl, T.ec_UnknownUser, d, _, rfl, e1⟩, rfl, .own _, T.kit_UnknownUser_MissingError, ?_⟩
      walk_at "rd"
      refine ⟨_, _, _, _, ⟨rfl, T.ec_UnknownUser, d, _, rfl, e1⟩, rfl, .own _, T.kit_UnknownUser_UnknownGroup, ?_⟩
      walk_at "rd"
      rename_i p3 H3 np3 sp3 kp3 hp3 W3
      exact q.to p3 H3 (k1.free np3) sp3 W3.keep hp3
    · refine ⟨false, T.exm_UnknownGroup_UnknownUser, fun z => Bool.noConfusion z, fun _ => ?_⟩
      refine ⟨true, T.low_UnknownGroup.te, fun _ a0 ha => ?_, fun z => Bool.noConfusion z⟩
      have q := q2 e
      have W1 := W.call0 k1
      walk_at "rd"
      refine ⟨d, b, rfl, e1, ?_⟩
      walk_at "rd"
      refine ⟨_, _, _, _, ⟨rfl, T.ec_UnknownGroup, d, _, rfl, e1⟩, rfl, .own _, T.kit_UnknownGroup_MissingError, ?_⟩
      walk_at "rd"
      refine ⟨_, _, _, _, ⟨rfl, T.ec_UnknownGroup, d, _, rfl, e1⟩, rfl, .own _, T.kit_UnknownGroup_RightsError, ?_⟩
      walk_at "rd"
      rename_i p3 H3 np3 sp3 kp3 hp3 W3
      exact q.to p3 H3 (k1.free np3) sp3 W3.keep hp3
    · refine ⟨false, T.exm_InvalidList_UnknownUser, fun z => Bool.noConfusion z, fun _ => ?_⟩
      refine ⟨false, T.exm_InvalidList_UnknownGroup, fun z => Bool.noConfusion z, fun _ => ?_⟩
      refine ⟨true, T.low_InvalidList.te, fun _ a0 ha => ?_, fun z => Bool.noConfusion z⟩
      have q := q3 e
      have W1 := W.call0 k1
      walk_at "rd"
      refine ⟨d, b, rfl, e1, ?_⟩
      walk_at "rd"
      refine ⟨_, _, _, _, ⟨rfl, T.ec_InvalidList, d, _, rfl, e1⟩, rfl, .own _, T.kit_InvalidList_RightsError, ?_⟩
      walk_at "rd"
      refine ⟨_, _, _, _, ⟨rfl, T.ec_InvalidList, d, _, rfl, e1⟩, rfl, .own _, T.kit_InvalidList_InvalidRights, ?_⟩
      walk_at "rd"
      rename_i p3 H3 np3 sp3 kp3 hp3 W3
      exact q.to p3 H3 (k1.free np3) sp3 W3.keep hp3
    · refine ⟨false, T.exm_InvalidRights_UnknownUser, fun z => Bool.noConfusion z, fun _ => ?_⟩
      refine ⟨false, T.exm_InvalidRights_UnknownGroup, fun z => Bool.noConfusion z, fun _ => ?_⟩
      refine ⟨false, T.exm_InvalidRights_InvalidList, fun z => Bool.noConfusion z, fun _ => ?_⟩
      refine ⟨true, T.low_InvalidRights.te, fun _ a0 ha => ?_, fun z => Bool.noConfusion z⟩
      have q := q4 e e2
      have W1 := W.call0 k1
      walk_at "rd"
      refine ⟨d, b, rfl, e1, ?_⟩
      walk_at "rd"
      refine ⟨_, _, _, _, ⟨rfl, T.ec_InvalidRights, d, _, rfl, e1⟩, rfl, .own _, T.kit_InvalidRights_RightsError, ?_⟩
      walk_at "rd"
      refine ⟨_, _, _, _, ⟨rfl, T.ec_InvalidRights, d, _, rfl, e1⟩, rfl, .own _, T.kit_InvalidRights_MissingError, ?_⟩
      walk_at "rd"
      rename_i p3 H3 np3 sp3 kp3 hp3 W3
      exact q.to p3 H3 (k1.free np3) sp3 W3.keep hp3
    · have q := q5 e
      have W1 := W.call0 k1
      walk_at "rd"
      rename_i p3 H3 np3 sp3 kp3 hp3 W3
      exact q.to p3 H3 (k1.free np3) sp3 W3.keep hp3
end
end K28
namespace K28
open PySem PySem.Spec PyProof.Rows L2 FR TL
open C8 (pss_cut pe_gc)
open StX (pe_callS2 pa_star)
section
variable {P : Program} {w : World} {K : PySem.W.Frag} {mg : Str → Option Value} {base : Heap} {A : Ads}
set_option pp.maxSteps 400
theorem keep_two {H : Hp} {x dx : Addr} {o o' : HO} (hx : H x = none) (hdx : H dx = none) : Keep [] H (upd (upd H dx o) x o') := fun b u e _ => by
  rw [upd_ne (ne_of_none e hx), upd_ne (ne_of_none e hdx)]
  exact e
/-- a thing that is no People, and stays so -/
def NoPe (K : PySem.W.Frag) (A : Ads) (H : Hp) (x : V) : Prop := ∃ t bb, (∀ H', Keep [] H H' → TyX K H' x (.type t) ∧ Self K H' x) ∧ PySem.W.kitOne K (.type t) (.ref A.C_People) = some false ∧ kitB t "bool" = some bb
def spNoP (K : PySem.W.Frag) (A : Ads) : Sp := fun vs H Q _ => ∃ x, vs = [x] ∧ NoPe K A H x ∧ ∀ H', Keep [] H H' → Q (.bl true) H'
theorem ok_no_people (T : Txt w K mg A) : FnOk P w K mg base CX0 4 A.f_no_people A.d_no_people ["_law_thing"] (spNoP K A) := by
  refine T.F_no_people.ok sc_no_people (fun vs H Q E h => ?_) (fun cdv A_ outer s_ H vs Q E hr h => ?_)
  · obtain ⟨x, rfl, _⟩ := h
    rfl
  · obtain ⟨x, rfl, ⟨t, bb, hx, kt, kb⟩, q⟩ := h
    refine ⟨_, (pss_cons (ps_try_asM (i := 1) rfl rfl sc_no_people.nd rfl rfl (fun W pn xe tk _ => (pss_one (ps_expr (pe_makeS T.mk_Judge (ok_Judge___init__ T) (hr.mono (by decide)) (by rfl) T.gC_Judge T.B_Judge___init__ (fun σ => passAt tk σ) (pa_cons (pv 0) pa_nil)))))
  (ClausesOk.cons ⟨rfl, by decide, .inl T.low_InvalidPeople.gC⟩ (fun a oe cls d pn hz hf => (pss_one (ps_ret (pe_and (pe_cmpR (op_eqSelfK (K := K) rfl (have h := u65 hr; h)) (pe_byLow T.low_InvalidPeople hz hf (pv 1)) (pv 0) (nomark _)) (pe_one (pe_cmpR op_eq (pe_callB (call_isiK (K := K) rfl) (by rfl) T.b_isinstance (by decide +kernel) (pa_cons (pe_byLow T.low_InvalidPeople hz hf (pv 1)) (pa_cons (pe_bltn (v := .ty "bool") rfl T.b_bool (by decide +kernel) rfl) pa_nil))) (pe_callB (call_isiK (K := K) rfl) (by rfl) T.b_isinstance (by decide +kernel) (pa_cons (pv 0) (pa_cons (pe_bltn (v := .ty "bool") rfl T.b_bool (by decide +kernel) rfl) pa_nil))) (nomark _)))))))
  ClausesOk.nil))
  (pss_one (ps_ret pe_bl))), ?_⟩
    walk_at "rd"
    intro j dj nj ndj ne
    have k1 : Keep [] H (upd (upd H dj (.own j)) j (.ins A.C_Judge dj [])) := keep_two nj ndj
    refine ⟨j, dj, x, rfl, upd_same, .inr ⟨⟨t, (hx _ k1).1, kt⟩, fun d H1 k2 e1 => ?_⟩⟩
    have k12 := k1.trans k2
    refine ⟨true, T.low_InvalidPeople.te, fun _ a0 ha => ?_, fun z => Bool.noConfusion z⟩
    obtain ⟨ty, sf⟩ := hx _ k12
    walk_at "rd"
    refine ⟨d, x, rfl, e1, ?_⟩
    walk_at "rd"
    refine ⟨d, x, rfl, e1, ?_⟩
    walk_at "rd"
    refine ⟨_, _, _, _, _, rfl, .ty _, ty, kit_ty kb, ?_⟩
    walk_at "rd"
    refine ⟨_, _, _, _, _, rfl, .ty _, ty, kit_ty kb, ?_⟩
    walk_at "rd"
    rw [show decide (V.bl bb = V.bl bb) = true from decide_eq_true rfl]
    exact q _ k12
end
end K28
namespace K28
open PySem PySem.Spec PyProof.Rows L2 FR TL
open C8 (pss_cut pe_gc)
open StX (pe_callS2 pa_star)
theorem sm_m0 : sm m0 = m0 := by
  rw [sm_eq (m := m0) (ys := us0) (List.Perm.refl _) (by decide +kernel)]
  decide +kernel
theorem gs_m0 : gsOf m0 = gs0 := by
  exact (srt_eq (by decide +kernel) (by decide +kernel)).symm
/-- an object that none of the held things is: a list, but not that of the groups -/
def Lx (o : HO) : Prop := ∃ xs, o = .lst xs ∧ xs ≠ gs0.map V.str
theorem lx_bag (x y z : Int) : Lx (bagO x y z) := ⟨_, rfl, fun e => by cases e⟩
theorem lx_five (a b c d e : V) : Lx (.lst [a, b, c, d, e]) := ⟨_, rfl, fun e => by cases e⟩
theorem lx_ints (ps : List Int) : Lx (.lst (ps.map V.int)) := ⟨_, rfl, fun e => by cases ps <;> cases e⟩
def LM2 (M : List Addr) (H : Hp) : Prop := ∀ a ∈ M, ∃ o, H a = some o ∧ Lx o
theorem LM2.tup {M : List Addr} {H H' : Hp} (h : LM2 M H) (k : Keep M H H') {p : Addr} {o : HO} (hp : H p = some o) (no : ¬ Lx o) : H' p = some o := k _ _ hp fun hm => by
  obtain ⟨o', h1, h2⟩ := h p hm
  rw [hp] at h1
  obtain rfl : o = o' := Option.some.inj h1
  exact no h2
theorem nlx_ins {C dx : Addr} {fs : List (Str × V)} : ¬ Lx (.ins C dx fs) := fun ⟨_, e, _⟩ => by cases e
theorem nlx_dK {kvs : List (L2.Key × V)} : ¬ Lx (.dK kvs) := fun ⟨_, e, _⟩ => by cases e
theorem nlx_tup {xs : List V} : ¬ Lx (.tup xs) := fun ⟨_, e, _⟩ => by cases e
theorem nlx_gs : ¬ Lx (.lst (gs0.map V.str)) := fun ⟨xs, e, f⟩ => f (HO.lst.inj e).symm
theorem Pp.keepM {C : Addr} {H H' : Hp} {p : Addr} {M : Mp} {L : List Addr} (h : Pp C H p M gs0) (l : LM2 L H) (k : Keep L H H') : Pp C H' p M gs0 := by
  obtain ⟨d, g, dx, kvs, h⟩ := h
  exact ⟨d, g, dx, kvs, l.tup k h.ob nlx_ins, l.tup k h.hd nlx_dK, h.dm.imp fun _ _ ⟨q, e, r⟩ => ⟨q, e, l.tup k r nlx_tup⟩, l.tup k h.hg nlx_gs, h.gd, h.gm, h.gl⟩
theorem Jd.keepM {A : Ads} {H H' : Hp} {j p : Addr} {L : List Addr} (h : Jd A H j p) (l : LM2 L H) (k : Keep L H H') : Jd A H' j p := ⟨h.1.imp fun _ e => l.tup k e nlx_ins, h.2.keepM l k⟩
theorem IsR.keepM {A : Ads} {H H' : Hp} {v : V} {d : Int} {L : List Addr} (h : IsR A H v d) (l : LM2 L H) (k : Keep L H H') : IsR A H' v d := by
  obtain ⟨a, dx, e, h, b⟩ := h
  exact ⟨a, dx, e, l.tup k h nlx_ins, b⟩
theorem AL.keepM {A : Ads} {H H' : Hp} {p : Addr} {c : AcR} {L : List Addr} (h : AL A H p c) (l : LM2 L H) (k : Keep L H H') : AL A H' p c := by
  obtain ⟨dx, o, g, t, mv, u, s, ku, ks, h⟩ := h
  exact ⟨dx, o, g, t, mv, u, s, ku, ks, ⟨l.tup k h.ob nlx_ins, h.ho.keepM l k, h.hg.keepM l k, h.ht.keepM l k, l.tup k h.hu nlx_dK, l.tup k h.hs nlx_dK, h.du.imp fun _ _ r => r.keepM l k, h.ds.imp fun _ _ r => r.keepM l k, h.hm.imp id fun ⟨d, e, r⟩ => ⟨d, e, r.keepM l k⟩⟩⟩
theorem LA.keepM {A : Ads} {H H' : Hp} {v : V} {L : List Addr} (h : LA A H v) (l : LM2 L H) (k : Keep L H H') : LA A H' v := by
  obtain ⟨al, c, e, a, r⟩ := h
  exact ⟨al, c, e, a.keepM l k, r⟩
theorem Keep.fresh {M : List Addr} {H0 Hi Hj : Hp} (k0 : Keep [] H0 Hi) (k : Keep M Hi Hj) (f : ∀ x ∈ M, H0 x = none) : Keep [] H0 Hj := fun x o ho _ => k x o (k0 x o ho (by simp)) fun hm => by rw [f x hm] at ho; cases ho
theorem cnt_in (L : Int) : (0 : Int) ≤ (if (if L < 8 then L else 8) > 3 then (if L < 8 then L else 8) else 3) ∧ (if (if L < 8 then L else 8) > 3 then (if L < 8 then L else 8) else 3) ≤ 8 := by
  split <;> split <;> constructor <;> omega
theorem lm0 {H : Hp} : LM2 [] H := fun a ha => by cases ha
/-! ### the five things -/
/-- a good one at its place -/
def GoodAt (A : Ads) (H : Hp) (n : Nat) (v : V) : Prop := match n with
  | 0 => ∃ s, v = .str s ∧ isU v = true ∧ okB (.str s) = true
  | 1 => ∃ s, v = .str s ∧ isO v = true ∧ okB (.str s) = true
  | 2 => ∃ s, v = .str s ∧ isG v = true ∧ okB (.str s) = true
  | 3 => LA A H v
  | _ => ∃ t d, v = .str t ∧ (t, d) ∈ goodT
theorem GoodAt.keepM {A : Ads} {H H' : Hp} {n : Nat} {v : V} {L : List Addr} (h : GoodAt A H n v) (l : LM2 L H) (k : Keep L H H') : GoodAt A H' n v := by
  unfold GoodAt at h ⊢
  split at h
  · exact h
  · exact h
  · exact h
  · exact h.keepM l k
  · exact h
theorem BadAt.keepA {H H' : Hp} {at_ : Int} {v : V} (h : BadAt H at_ v) (k : ∀ a o, v = .ref a → H a = some o → H' a = some o) : BadAt H' at_ v := by
  obtain ⟨⟨e, he, x⟩, r⟩ := h
  exact ⟨⟨e, he.keepA k, x⟩, r⟩
/-- one of the five: bad where the places tell so, and no list that changes -/
def Slot (A : Ads) (H : Hp) (L : List Addr) (ps : List Int) (n : Nat) (v : V) : Prop := ((n : Int) ∈ ps → BadAt H n v ∧ ∀ a, v = .ref a → a ∉ L) ∧ ((n : Int) ∉ ps → GoodAt A H n v)
theorem Slot.keepM {A : Ads} {H H' : Hp} {L M : List Addr} {ps : List Int} {n : Nat} {v : V} (h : Slot A H L ps n v) (sub : ∀ a ∈ M, a ∈ L) (l : LM2 M H) (k : Keep M H H') : Slot A H' L ps n v :=
  ⟨fun m => ⟨(h.1 m).1.keepA fun a o e ho => k a o ho fun hm => (h.1 m).2 a e (sub a hm), (h.1 m).2⟩, fun m => (h.2 m).keepM l k⟩
def five (f : Nat → V) : List V := [f 0, f 1, f 2, f 3, f 4]
theorem first_of {A : Ads} {H : Hp} {L : List Addr} {ps : List Int} {f : Nat → V} (h : ∀ n, n < 5 → Slot A H L ps n (f n)) {m : Nat} (hm : (m : Int) ∈ ps) (le : ∀ y ∈ ps, (m : Int) ≤ y) (m5 : m < 5) : First A H (f 0) (f 1) (f 2) (f 3) (f 4) m (f m) := by
  have no : ∀ n : Nat, n < m → GoodAt A H n (f n) := fun n hn => (h n (by omega)).2 fun z => by have := le _ z; omega
  have bd := ((h m m5).1 hm).1
  have g0 : 0 < m → Th H (f 0) (isU (f 0)) true := fun z => by
    obtain ⟨s, e, u, o⟩ := no 0 z
    exact ⟨⟨_, by rw [e]; exact ⟨.str s, o⟩⟩, u⟩
  have g1 : 1 < m → Th H (f 1) (isO (f 1)) true := fun z => by
    obtain ⟨s, e, u, o⟩ := no 1 z
    exact ⟨⟨_, by rw [e]; exact ⟨.str s, o⟩⟩, u⟩
  have g2 : 2 < m → Th H (f 2) (isG (f 2)) true := fun z => by
    obtain ⟨s, e, u, o⟩ := no 2 z
    exact ⟨⟨_, by rw [e]; exact ⟨.str s, o⟩⟩, u⟩
  have g3 : 3 < m → LA A H (f 3) := fun z => no 3 z
  obtain ⟨⟨e, he, hl⟩, b0, b1, b2⟩ := bd
  have : m = 0 ∨ m = 1 ∨ m = 2 ∨ m = 3 ∨ m = 4 := by omega
  rcases this with rfl | rfl | rfl | rfl | rfl
  · exact .b0 ⟨⟨e, he⟩, b0 rfl⟩
  · exact .b1 (g0 (by decide)) ⟨⟨e, he⟩, b1 rfl⟩
  · exact .b2 (g0 (by decide)) (g1 (by decide)) ⟨⟨e, he⟩, b2 rfl⟩
  · exact .b3 (g0 (by decide)) (g1 (by decide)) (g2 (by decide)) ⟨e, he⟩
  · exact .b4 (g0 (by decide)) (g1 (by decide)) (g2 (by decide)) (g3 (by decide)) ⟨e, he, hl rfl⟩
theorem first_ok {A : Ads} {H : Hp} {f : Nat → V} (h : ∀ n, n < 5 → GoodAt A H n (f n)) : First A H (f 0) (f 1) (f 2) (f 3) (f 4) 5 .non := by
  obtain ⟨s, e, u, o⟩ := h 0 (by decide)
  obtain ⟨s1, e1, u1, o1⟩ := h 1 (by decide)
  obtain ⟨s2, e2, u2, o2⟩ := h 2 (by decide)
  exact .ok ⟨⟨_, by rw [e]; exact ⟨.str s, o⟩⟩, u⟩ ⟨⟨_, by rw [e1]; exact ⟨.str s1, o1⟩⟩, u1⟩ ⟨⟨_, by rw [e2]; exact ⟨.str s2, o2⟩⟩, u2⟩ (h 3 (by decide)) (h 4 (by decide))
/-- the word of a place -/
def wd (m : Nat) : Str := if m = 0 then Str.ofString "user" else if m = 1 then Str.ofString "user" else if m = 2 then Str.ofString "group" else if m = 3 then Str.ofString "list" else Str.ofString "rights"
def expL (m : Nat) (way : Int) (b : V) : List V := if m = 4 ∧ way = 2 then [.str (Str.ofString "good")] else [.str (wd m), b, .bl true]
theorem told_mk {m : Nat} {way : Int} {b : V} {Q : VK} {H : Hp} (m5 : m < 5) (q : NewS (.lst (expL m way b)) Q H) : Told m way b Q H := by
  unfold expL at q
  refine ⟨fun z => ?_, fun z => ?_, fun z => ?_, fun z y => ?_, fun z => ?_⟩
  · rw [if_neg (by omega)] at q
    rcases z with rfl | rfl <;> exact q
  · subst z
    rw [if_neg (by omega)] at q
    exact q
  · subst z
    rw [if_neg (by omega)] at q
    exact q
  · subst z
    rw [if_neg (by omega)] at q
    exact q
  · rw [if_pos (by omega)] at q
    exact q
theorem told_good {way : Int} {b : V} {Q : VK} {H : Hp} (q : NewS (.lst [.str (Str.ofString "good")]) Q H) : Told 5 way b Q H :=
  ⟨fun z => by omega, fun z => by omega, fun z => by omega, fun z => by omega, fun _ => q⟩
theorem wd_ok (m : Nat) : okB (.str (wd m)) = true := by
  unfold wd
  repeat' split
  all_goals decide +kernel
end K28
namespace K28
open PySem PySem.Spec PyProof.Rows L2 FR TL
open C8 (pss_cut pe_gc)
open StX (pe_callS2 pa_star)
abbrev Es := List (Addr × Str × List Str)
def dEs (es : Es) : List (L2.Key × V) := es.map fun e => (Sum.inr e.2.1, .ref e.1)
theorem lx_four (a b c d : V) : Lx (.lst ([a, b] ++ [c, d])) := ⟨_, rfl, fun e => by cases e⟩
theorem good0 {v : V} (h : v ∈ [V.str (Str.ofString "ann"), .str (Str.ofString "bob"), .str (Str.ofString "staff")]) : ∃ s, v = .str s ∧ isU v = true ∧ okB (.str s) = true := by
  simp only [List.mem_cons, List.not_mem_nil, or_false] at h
  rcases h with rfl | rfl | rfl <;> exact ⟨_, rfl, by decide +kernel, by decide +kernel⟩
theorem good1 {v : V} (h : v ∈ [V.str (Str.ofString "root"), .str (Str.ofString "ann"), .str (Str.ofString "staff")]) : ∃ s, v = .str s ∧ isO v = true ∧ okB (.str s) = true := by
  simp only [List.mem_cons, List.not_mem_nil, or_false] at h
  rcases h with rfl | rfl | rfl <;> exact ⟨_, rfl, by decide +kernel, by decide +kernel⟩
theorem good2 {v : V} (h : v ∈ [V.str (Str.ofString "root"), .str (Str.ofString "staff"), .str (Str.ofString "chess"), .str (Str.ofString "guests")]) : ∃ s, v = .str s ∧ isG v = true ∧ okB (.str s) = true := by
  simp only [List.mem_cons, List.not_mem_nil, or_false] at h
  rcases h with rfl | rfl | rfl | rfl <;> exact ⟨_, rfl, by decide +kernel, by decide +kernel⟩
theorem good4 {v : V} (h : v ∈ [V.str (Str.ofString ""), .str (Str.ofString "r"), .str (Str.ofString "xwr")]) : ∃ t d, v = .str t ∧ (t, d) ∈ goodT := by
  simp only [List.mem_cons, List.not_mem_nil, or_false] at h
  rcases h with rfl | rfl | rfl
  · exact ⟨_, 0, rfl, by decide +kernel⟩
  · exact ⟨_, 4, rfl, by decide +kernel⟩
  · exact ⟨_, 7, rfl, by decide +kernel⟩
theorem good_ne (ps : List Addr) : HO.lst [V.str (Str.ofString "good")] ≠ .lst (ps.map V.ref) := fun e => by
  cases ps <;> cases e
theorem ix_five {f : Nat → V} {n : Nat} (h : n < 5) : ixN (five f).length (n : Int) = some n := by
  have : n = 0 ∨ n = 1 ∨ n = 2 ∨ n = 3 ∨ n = 4 := by omega
  rcases this with rfl | rfl | rfl | rfl | rfl <;> rfl
theorem five_set {f : Nat → V} {n : Nat} {v : V} (h : n < 5) : (five f).set n v = five (fun m => if m = n then v else f m) := by
  have : n = 0 ∨ n = 1 ∨ n = 2 ∨ n = 3 ∨ n = 4 := by omega
  rcases this with rfl | rfl | rfl | rfl | rfl <;> rfl
theorem at_five {f : Nat → V} {n : Nat} (h : n < 5) : atI (five f) (n : Int) = some (f n) := by
  have : n = 0 ∨ n = 1 ∨ n = 2 ∨ n = 3 ∨ n = 4 := by omega
  rcases this with rfl | rfl | rfl | rfl | rfl <;> exact atI_nat rfl
theorem at_wd {n : Nat} (h : n < 5) : atI [V.str (Str.ofString "user"), .str (Str.ofString "user"), .str (Str.ofString "group"), .str (Str.ofString "list"), .str (Str.ofString "rights")] (n : Int) = some (.str (wd n)) := by
  have : n = 0 ∨ n = 1 ∨ n = 2 ∨ n = 3 ∨ n = 4 := by omega
  rcases this with rfl | rfl | rfl | rfl | rfl <;> exact atI_nat rfl
theorem exp_good {m : Nat} {way : Int} {b : V} (h : m = 4 ∧ way = 2) : expL m way b = [.str (Str.ofString "good")] := if_pos h
theorem exp_due {m : Nat} {way : Int} {b : V} (h : ¬ (m = 4 ∧ way = 2)) : expL m way b = [.str (wd m), b, .bl true] := if_neg h
/-- behind u turns: which places are bad -/
def Turn (A : Ads) (H : Hp) (j p b tl pl : Addr) (u : Nat) : Prop := ∃ (x y z : Int) (f : Nat → V) (ps : List Int), BagOk (10 + 2 * u) x y z ∧ H b = some (bagO x y z) ∧ H tl = some (.lst (five f)) ∧ H pl = some (.lst (ps.map V.int)) ∧ ps.length = u ∧
  (∀ y ∈ ps, 0 ≤ y ∧ y ≤ 4) ∧ (∀ n, n < 5 → Slot A H [b, tl, pl] ps n (f n)) ∧ Jd A H j p
theorem merge3 {k1 k2 k3 : L2.Key} {v1 v2 v3 : V} (a : k1 ≠ k2) (b : k1 ≠ k3) (c : k2 ≠ k3) : mergeK [] [(k1, v1), (k2, v2), (k3, v3)] = [(k1, v1), (k2, v2), (k3, v3)] := by
  simp [mergeK, putK, a, b, c]
theorem dg0 : Dg [] := ⟨List.nodup_nil, (fun e he => by cases he), (fun e he => by cases he), Nat.zero_le _⟩
def c0 : AcR := ⟨6, 4, 0, [], [], none⟩
theorem c0_ok : AccOk c0 where
  o := by decide
  g := by decide
  t := by decide
  u := dg0
  s := dg0
  m := .inl ⟨rfl, rfl, rfl⟩
section
variable {P : Program} {w : World} {K : PySem.W.Frag} {mg : Str → Option Value} {base : Heap} {A : Ads}
set_option pp.maxSteps 700
theorem bd_People___init___1 (T : Txt w K mg A) : Vals [] [] ∧ Binds K A.d_People___init__ ["self", "members"] [] := ⟨.nil, T.B_People___init__⟩
theorem bd_Judge___init___1 (T : Txt w K mg A) : Vals [] [] ∧ Binds K A.d_Judge___init__ ["self", "people"] [] := ⟨.nil, T.B_Judge___init__⟩
theorem bd_AccessList___init___3 (T : Txt w K mg A) : Vals [.non, .non, .non] [.none, .none, .none] ∧ Binds K A.d_AccessList___init__ ["self", "owner", "group", "other", "users", "groups", "mask"] [.none, .none, .none] := by
  obtain ⟨ds, h1, h2⟩ := T.F_AccessList___init__.binds0 (ps := ["self", "owner", "group", "other", "users", "groups", "mask"]) 4 (by simp) rfl fun D doc pm an cdv ct us its h1 h2 => match us, its, h1, h2 with
    | [_, _, _, _], [_, _, _], _, _ => ⟨_, _, _, _, _, _, rfl, rfl, ⟨_, _, _, _, _, _, rfl, rfl, ⟨_, _, _, _, _, _, rfl, rfl, rfl⟩⟩⟩
  match ds, h1, h2 with
  | [_, _, _], .cons a (.cons b (.cons c .nil)), h2 =>
    cases a
    cases b
    cases c
    exact ⟨.cons rfl (.cons rfl (.cons rfl .nil)), h2⟩
def spLaw (K : PySem.W.Frag) : Sp := fun vs H Q _ => ∃ (a : Addr) (ns : List Int), vs = [.ref a] ∧ SqL K H a (ns.map V.int) ∧ ns.length ≤ 63 ∧ ∀ H', Q (.bl true) H'
theorem keep_sq {H H' : Hp} {a : Addr} {xs : List V} (h : SqL K H a xs) (k : Keep [] H H') : SqL K H' a xs := by
  rcases h with (h | ⟨o, h⟩) | h
  · exact .inl (.inl (k _ _ h (by simp)))
  · exact .inl (.inr ⟨o, k _ _ h (by simp)⟩)
  · exact .inr h
theorem ok_law (T : Txt w K mg A) : FnG P w K mg base CX0 12 A.f_law (spLaw K) := by
  refine okG0 T.F_law sc_law T.B_law (fun vs H Q E h => ?_) (fun cdv A_ outer s H vs Q E hgd hr h => ?_)
  · obtain ⟨a, ns, rfl, _⟩ := h
    rfl
  · obtain ⟨sa, ns, rfl, hS, hlen, q⟩ := h
    refine ⟨_, (pss_cons (ps_set (i := 1) sc_law.nd rfl (.inl rfl) (pe_make T.mk_People (ok_People___init__ T) (hr.mono (by decide)) (by rfl) T.gC_People (bd_People___init___1 T).2 (bd_People___init___1 T).1 pass0 (pa_cons (pe_disp (pps_cons pe_str (pe_lstS (pa_cons pe_str (pa_cons pe_str pa_nil))) (pps_cons pe_str (pe_lstS (pa_cons pe_str pa_nil)) (pps_cons pe_str (pe_lstS (pa_cons pe_str pa_nil)) pps_nil))) (by rfl) (by rfl) (fun z => by cases z) (by decide)) pa_nil)))
  (pss_cons (ps_set (i := 2) sc_law.nd rfl (.inr rfl) (pe_make T.mk_Judge (ok_Judge___init__ T) (hr.mono (by decide)) (by rfl) T.gC_Judge (bd_Judge___init___1 T).2 (bd_Judge___init___1 T).1 px0 (pa_cons (pv 1) pa_nil)))
  (pss_cons (ps_for PassesOwn.never rfl (pi_range1 (by rfl) T.b_range (pa_cons (pe_callB (call_max2 rfl) (by rfl) T.b_max (by decide +kernel) (pa_cons pe_int (pa_cons (pe_callB (call_min2 rfl) (by rfl) T.b_min (by decide +kernel) (pa_cons pe_int (pa_cons (pe_callB call_len_seq (by rfl) T.b_len PySem.boot_len (pa_cons (pv 0) pa_nil)) pa_nil))) pa_nil))) pa_nil)) (pg_name (i := 3) sc_law.nd rfl (.inl rfl)) (pss_cons (ps_set (i := 4) sc_law.nd rfl (.inl rfl) (pe_call (ok_bag T) (hr.mono (by decide)) (by rfl) T.g_bag T.F_bag.kp T.B_bag .nil pass0 (pa_cons (pe_call (ok_cell T) (hr.mono (by decide)) (by rfl) T.g_cell T.F_cell.kp T.B_cell .nil pass0 (pa_cons (pv 0) (pa_cons (pv 3) pa_nil))) pa_nil)))
  (pss_cons (ps_set (i := 5) sc_law.nd rfl (.inr rfl) (pe_lstS (pa_cons (pe_ix ix_list (pe_lstS (pa_cons pe_str (pa_cons pe_str (pa_cons pe_str pa_nil)))) (pe_call (ok_take T) (hr.mono (by decide)) (by rfl) T.g_take T.F_take.kp T.B_take .nil pass0 (pa_cons (pv 4) (pa_cons pe_int pa_nil))) (fun _ _ => rfl)) (pa_cons (pe_ix ix_list (pe_lstS (pa_cons pe_str (pa_cons pe_str (pa_cons pe_str pa_nil)))) (pe_call (ok_take T) (hr.mono (by decide)) (by rfl) T.g_take T.F_take.kp T.B_take .nil pass0 (pa_cons (pv 4) (pa_cons pe_int pa_nil))) (fun _ _ => rfl)) pa_nil))))
  (pss_cons (ps_set (i := 5) sc_law.nd rfl (.inr rfl) (pe_op op_catN (pv 5) (pe_lstS (pa_cons (pe_ix ix_list (pe_lstS (pa_cons pe_str (pa_cons pe_str (pa_cons pe_str (pa_cons pe_str pa_nil))))) (pe_call (ok_take T) (hr.mono (by decide)) (by rfl) T.g_take T.F_take.kp T.B_take .nil pass0 (pa_cons (pv 4) (pa_cons pe_int pa_nil))) (fun _ _ => rfl)) (pa_cons (pe_make T.mk_AccessList (ok_AccessList___init__ T) (hr.mono (by decide)) (by rfl) T.gC_AccessList (bd_AccessList___init___3 T).2 (bd_AccessList___init___3 T).1 pass0 (pa_cons pe_str (pa_cons pe_str (pa_cons pe_str pa_nil)))) pa_nil)))))
  (pss_cons (ps_expr (pe_bm PySem.F.plainAttrs_list PySem.F.slot_list_append PySem.F.type_list_append mt_appN (pv 5) (pa_cons (pe_ix ix_list (pe_lstS (pa_cons pe_str (pa_cons pe_str (pa_cons pe_str pa_nil)))) (pe_call (ok_take T) (hr.mono (by decide)) (by rfl) T.g_take T.F_take.kp T.B_take .nil pass0 (pa_cons (pv 4) (pa_cons pe_int pa_nil))) (fun _ _ => rfl)) pa_nil)))
  (pss_cons (ps_if (pt_cmpR (op_neD hr.units) (pe_lc (own := [("_law_way", 12)]) (g := gName 12) rfl sc_law.nd (pi_range1 (by rfl) T.b_range (pa_cons pe_int pa_nil)) (blkOk_by (own := [("_law_way", 12)]) (N := N_law) (sc := defScope s_law) (by decide +kernel)) (fun _ _ _ _ _ => pg_name (i := 12) sc_law.nd rfl (Or.inl rfl)) (fun _ _ _ _ _ => pts_nil) (fun _ _ _ _ _ => (pe_call (ok_tried T) (hr.mono (by decide)) (by rfl) T.g_tried T.F_tried.kp T.B_tried .nil pass0 (pa_cons (pv 2) (pa_cons (pv 12) (pa_cons (pv 5) pa_nil)))))) (pe_op op_rep (pe_lstS (pa_cons (pe_lstS (pa_cons pe_str pa_nil)) pa_nil)) pe_int) (nomark _)) (pss_one (ps_ret pe_bl)) pss_nil)
  (pss_cons (ps_par (i := 6) (j := 7) (by rfl) sc_law.nd rfl rfl (by decide) rfl rfl (pa_cons (pe_callTy call_lofN (by rfl) T.b_list (by decide +kernel) (pa_cons (pv 5) pa_nil)) (pa_cons (pe_lstS pa_nil) pa_nil)) (by rfl))
  (pss_cons (ps_for PassesOwn.never rfl (pi_range1 (by rfl) T.b_range (pa_cons (pe_op op_add pe_int (pe_call (ok_take T) (hr.mono (by decide)) (by rfl) T.g_take T.F_take.kp T.B_take .nil pass0 (pa_cons (pv 4) (pa_cons pe_int pa_nil)))) pa_nil)) (pg_name (i := 8) sc_law.nd rfl (.inl rfl)) (pss_cons (ps_set (i := 9) sc_law.nd rfl (.inl rfl) (pe_call (ok_take T) (hr.mono (by decide)) (by rfl) T.g_take T.F_take.kp T.B_take .nil pass0 (pa_cons (pv 4) (pa_cons pe_int pa_nil))))
  (pss_cons (ps_asg (pe_call (ok_bad T) (hr.mono (by decide)) (by rfl) T.g_bad T.F_bad.kp T.B_bad .nil pass0 (pa_cons (pv 4) (pa_cons (pv 9) pa_nil))) (pg_sub (pv 6) (pv 9) set_listN))
  (pss_one (ps_expr (pe_bm PySem.F.plainAttrs_list PySem.F.slot_list_append PySem.F.type_list_append mt_appN (pv 7) (pa_cons (pv 9) pa_nil)))))))
  (pss_cons (ps_set (i := 10) sc_law.nd rfl (.inl rfl) (pe_callB (cr_min rfl) (by rfl) T.b_min (by decide +kernel) (pa_cons (pv 7) pa_nil)))
  (pss_cons (ps_set (i := 11) sc_law.nd rfl (.inl rfl) (pe_lstS (pa_cons (pe_ix ix_list (pe_lstS (pa_cons pe_str (pa_cons pe_str (pa_cons pe_str (pa_cons pe_str (pa_cons pe_str pa_nil)))))) (pv 10) (fun _ _ => rfl)) (pa_cons (pe_ix ix_list (pv 6) (pv 10) (fun _ _ => rfl)) (pa_cons pe_bl pa_nil)))))
  (pss_cons (ps_for PassesOwn.never rfl (pi_range1 (by rfl) T.b_range (pa_cons pe_int pa_nil)) (pg_name (i := 12) sc_law.nd rfl (.inl rfl)) (pss_cons (ps_set (i := 13) sc_law.nd rfl (.inl rfl) (pe_ifExp (PW.pt (pw_and (pt_cmpR op_eq (pv 12) pe_int (nomark _)) (pw_and1 (pt_cmpR op_eq (pv 10) pe_int (nomark _))))) (pe_lstS (pa_cons pe_str pa_nil)) (pv 11)))
  (pss_one (ps_if (pt_cmpR op_ne (pe_callB (call_reprX hgd (u65 hr)) (by rfl) T.b_repr (by decide +kernel) (pa_cons (pe_call (ok_tried T) (hr.mono (by decide)) (by rfl) T.g_tried T.F_tried.kp T.B_tried .nil pass0 (pa_cons (pv 2) (pa_cons (pv 12) (pa_cons (pv 6) pa_nil)))) pa_nil)) (pe_callB (call_reprX hgd (u65 hr)) (by rfl) T.b_repr (by decide +kernel) (pa_cons (pv 13) pa_nil)) (nomark _)) (pss_one (ps_ret pe_bl)) pss_nil))))
  (pss_one (ps_if (pt_not (pt_val (pe_call (ok_no_people T) (hr.mono (by decide)) (by rfl) T.g_no_people T.F_no_people.kp T.B_no_people .nil pass0 (pa_cons (pe_ix ix_list (pe_lstS (pa_cons pe_non (pa_cons pe_int (pa_cons pe_dnewN (pa_cons (pe_disp (pps_cons pe_str (pe_lstS (pa_cons pe_str pa_nil)) pps_nil) (by rfl) (by rfl) (fun z => by cases z) (by decide)) (pa_cons (pe_lstS (pa_cons (pv 1) pa_nil)) (pa_cons pe_bl (pa_cons pe_str pa_nil)))))))) (pe_call (ok_take T) (hr.mono (by decide)) (by rfl) T.g_take T.F_take.kp T.B_take .nil pass0 (pa_cons (pv 4) (pa_cons pe_int pa_nil))) (fun _ _ => rfl)) pa_nil)))) (pss_one (ps_ret pe_bl)) pss_nil)))))))))))))
  (pss_one (ps_ret pe_bl))))), ?_⟩
    refine fun D nD => ⟨(show 2 ≤ sizeLine by decide), NewS.mk fun p1 H1 n1 s1 k1 h1 => ⟨(show 1 ≤ sizeLine by decide), NewS.mk fun p2 H2 n2 s2 k2 h2 => ⟨(show 1 ≤ sizeLine by decide), NewS.mk fun p3 H3 n3 s3 k3 h3 => ?_⟩⟩⟩
    have hD3 : H3 D = some (.dK []) := k3 _ _ (k2 _ _ (k1 _ _ upd_same (by simp)) (by simp)) (by simp)
    have K3 : Keep [] H H3 := ((keep_new nD).trans k1).trans (k2.trans k3)
    refine ⟨hD3, dEs [(p1, m0[0]), (p2, m0[1]), (p3, m0[2])], rfl, by show 3 ≤ 15; decide, ?_⟩
    have em : mergeK [] (dEs [(p1, m0[0]), (p2, m0[1]), (p3, m0[2])]) = dEs [(p1, m0[0]), (p2, m0[1]), (p3, m0[2])] := by
      have a : (Sum.inr m0[0].1 : L2.Key) ≠ Sum.inr m0[1].1 := by decide +kernel
      have b : (Sum.inr m0[0].1 : L2.Key) ≠ Sum.inr m0[2].1 := by decide +kernel
      have c : (Sum.inr m0[1].1 : L2.Key) ≠ Sum.inr m0[2].1 := by decide +kernel
      exact merge3 a b c
    rw [em]
    have h1' : upd H3 D (.dK (dEs [(p1, m0[0]), (p2, m0[1]), (p3, m0[2])])) p1 = some (.lst (m0[0].2.map V.str)) := by rw [upd_ne (ne_of (k3 _ _ (k2 _ _ h1 (by simp)) (by simp)) hD3 (fun z => by cases z))]; exact k3 _ _ (k2 _ _ h1 (by simp)) (by simp)
    have h2' : upd H3 D (.dK (dEs [(p1, m0[0]), (p2, m0[1]), (p3, m0[2])])) p2 = some (.lst (m0[1].2.map V.str)) := by rw [upd_ne (ne_of (k3 _ _ h2 (by simp)) hD3 (fun z => by cases z))]; exact k3 _ _ h2 (by simp)
    have h3' : upd H3 D (.dK (dEs [(p1, m0[0]), (p2, m0[1]), (p3, m0[2])])) p3 = some (.lst (m0[2].2.map V.str)) := by rw [upd_ne (ne_of h3 hD3 (fun z => by cases z))]; exact h3
    have hD4 : upd H3 D (.dK (dEs [(p1, m0[0]), (p2, m0[1]), (p3, m0[2])])) D = some (.dK (dEs [(p1, m0[0]), (p2, m0[1]), (p3, m0[2])])) := upd_same
    have K4 : Keep [] H (upd H3 D (.dK (dEs [(p1, m0[0]), (p2, m0[1]), (p3, m0[2])]))) := keep_free K3 nD
    generalize upd H3 D (.dK (dEs [(p1, m0[0]), (p2, m0[1]), (p3, m0[2])])) = H4 at h1' h2' h3' hD4 K4 ⊢
    have dm4 : DM (Sq H4) (dEs [(p1, m0[0]), (p2, m0[1]), (p3, m0[2])]) m0 := .cons ⟨rfl, p1, rfl, .inl h1'⟩ (.cons ⟨rfl, p2, rfl, .inl h2'⟩ (.cons ⟨rfl, p3, rfl, .inl h3'⟩ .nil))
    clear K3 k1 k2 k3 h1 h2 h3 h1' h2' h3' hD3 em
    refine fun p pdx np ndp npx => ⟨p, pdx, D, _, m0, rfl, upd_same, keep_of_new Keep.refl np ndp Keep.refl _ _ hD4 (by simp), dm4.imp fun _ _ r => r.keep (keep_of_new Keep.refl np ndp Keep.refl), mk_m0, fun H5 d g dx' ks k5 pm hP nd ng => ⟨rfl, ?_⟩⟩
    have K5 : Keep [] H H5 := K4.trans (keep_of_new Keep.refl np ndp k5)
    have hp5 : Pp A.C_People H5 p m0 gs0 := by
      have z : Pp A.C_People H5 p (sm m0) (gsOf m0) := ⟨_, _, _, _, hP⟩
      rw [sm_m0, gs_m0] at z
      exact z
    clear hP K4 k5 nd ng dm4 hD4 np ndp npx n1 n2 n3 s1 s2 s3 pm
    refine ⟨_, rfl, fun j jdx nj ndj nej => ⟨j, jdx, _, rfl, upd_same, .inl ⟨p, rfl, hp5.keep (keep_of_new Keep.refl nj ndj Keep.refl), fun H6 k6 h6 => ⟨rfl, ?_⟩⟩⟩⟩
    have k6' : Keep [] H5 H6 := keep_of_new Keep.refl nj ndj k6
    have jd : Jd A H6 j p := ⟨⟨jdx, h6⟩, hp5.keep k6'⟩
    have K6 : Keep [] H H6 := K5.trans k6'
    clear k6 k6' h6 hp5 K5 nj ndj nej
    refine ⟨_, rfl, sa, _, rfl, .inl (keep_sq hS K6), _, _, rfl, _, _, rfl, _, rfl, ?_⟩
    obtain ⟨ca, cb⟩ := cnt_in ((ns.map V.int).length : Int)
    refine ⟨Int.le_trans (by decide) ca, Int.lt_of_le_of_lt cb (by decide), ?_⟩
    generalize (if (if ((ns.map V.int).length : Int) < 8 then ((ns.map V.int).length : Int) else 8) > 3 then (if ((ns.map V.int).length : Int) < 8 then ((ns.map V.int).length : Int) else 8) else 3) = cnt at ca cb ⊢
    refine for_rg (fun i σ H' => (∃ y3 y4 y5 y6 y7 y8 y9 y10 y11 y12 y13, σ = [some (.ref sa), some (.ref p), some (.ref j), y3, y4, y5, y6, y7, y8, y9, y10, y11, y12, y13]) ∧ Jd A H' j p ∧ Keep [] H H') ⟨⟨none, none, none, none, none, none, none, none, none, none, none, rfl⟩, jd, K6⟩ ?_ ?_
    · clear jd K6
      rintro i σ H1 hi ⟨⟨y3, y4, y5, y6, y7, y8, y9, y10, y11, y12, y13, rfl⟩, jd1, K1⟩
      have hi5 : i < 8 := by
        have hi : i < cnt.toNat := hi
        omega
      refine ⟨_, rfl, _, rfl, ?_⟩
      refine ⟨sa, ns, _, rfl, keep_sq hS K1, by omega, by omega, fun n => ?_⟩
      refine ⟨n, rfl, fun bx by_ bz bok => NewO.mk fun b H2 n2 k2 h2 => ?_⟩
      have K2 := K1.trans k2
      have fb : H b = none := K1.free n2
      have jd2 := jd1.keep k2
      clear K1 k2 jd1 n2
      have W := Ow.start1 h2
      walk_at "rd"
      rename_i p1 H3 np1 sp1 kp1 hp1 W3
      walk_at "take"
      rename_i d x4 y4' z4 H4 d0 d1 ok4 kp4 hb4 W4
      obtain ⟨v0, hv0, hm0⟩ := lst_at (W4.get 0 rfl) rfl d0 d1
      refine ⟨_, _, _, _, rfl, rfl, W4.sq 0 rfl, hv0, ?_⟩
      clear hv0 d0 d1
      walk_at "rd"
      rename_i p2 H5 np2 sp2 kp2 hp2 W5
      walk_at "take"
      rename_i d x6 y6' z6 H6 d0 d1 ok6 kp6 hb6 W6
      obtain ⟨v1, hv1, hm1⟩ := lst_at (W6.get 0 rfl) rfl d0 d1
      refine ⟨_, _, _, _, rfl, rfl, W6.sq 0 rfl, hv1, ?_⟩
      clear hv1 d0 d1
      walk_at "rd"
      rename_i p3 H7 np3 sp3 kp3 hp3 W7 p4 H8 np4 sp4 kp4' hp4 W8
      walk_at "take"
      rename_i d x9 y9' z9 H9 d0 d1 ok9 kp9 hb9 W9
      obtain ⟨v2, hv2, hm2⟩ := lst_at (W9.get 0 rfl) rfl d0 d1
      refine ⟨_, _, _, _, rfl, rfl, W9.sq 0 rfl, hv2, ?_⟩
      clear hv2 d0 d1
      refine fun al dal nal ndal neal => ⟨al, dal, _, _, _, c0, rfl, upd_same, (by decide +kernel : (_, (6 : Int)) ∈ goodT), (by decide +kernel : (_, (4 : Int)) ∈ goodT), (by decide +kernel : (_, (0 : Int)) ∈ goodT), rfl, rfl, rfl, c0_ok, fun H10 k10 hal pu pg => ⟨rfl, ?_⟩⟩
      have k10 : Keep [] H9 H10 := keep_of_new Keep.refl nal ndal k10
      have W10 := W9.call0 k10
      walk_at "rd"
      rename_i p5 H11 np5 sp5 kp5 hp5 W11
      refine ⟨_, _, _, _, rfl, rfl, W11.get 2 rfl, W11.get 0 rfl, size_ok (Nat.le_of_ble_eq_true rfl), ?_⟩
      walk_at "obj"
      rename_i g H12 npg kpg hpg W12
      walk_at "rd"
      rename_i p6 H13 np6 sp6 kp6 hp6 W13
      walk_at "take"
      rename_i d x14 y14 z14 H14 d0 d1 ok14 kp14 hb14 W14
      obtain ⟨v3, hv3, hm3⟩ := lst_at (W14.get 0 rfl) rfl d0 d1
      refine ⟨_, _, _, _, rfl, rfl, W14.sq 0 rfl, hv3, ?_⟩
      clear hv3 d0 d1
      walk_at "rd"
      rename_i H15 kp15 hg15 W15
      obtain ⟨f, hf⟩ : ∃ f : Nat → V, f = fun n => [v0, v1, v2, .ref al, v3].getD n .non := ⟨_, rfl⟩
      have hg : H15 g = some (.lst (five f)) := by rw [hf]; exact hg15
      have hb15 : H15 b = some (bagO x14 y14 z14) := W15.get 7 rfl
      have bl : ∀ {H' x y z}, H' b = some (bagO x y z) → LM2 [b] H' := fun h p hp => by rw [List.mem_singleton.mp hp]; exact ⟨_, h, lx_bag _ _ _⟩
      have jd15 : Jd A H15 j p := jd2.keepM (bl h2) W15.keep
      have al15 : LA A H15 (.ref al) := (((show LA A H10 (.ref al) from ⟨al, c0, rfl, hal, pu, pg, c0_ok⟩).keep ((kp5.trans kpg).trans kp6)).keepM (bl (W13.get 7 rfl)) kp14).keepM (L := [g]) (fun p hp => by rw [List.mem_singleton.mp hp]; exact ⟨_, W14.get 1 rfl, lx_four _ _ _ _⟩) kp15
      have gd : ∀ n, n < 5 → GoodAt A H15 n (f n) := fun n hn => by
        have : n = 0 ∨ n = 1 ∨ n = 2 ∨ n = 3 ∨ n = 4 := by omega
        rw [hf]
        rcases this with rfl | rfl | rfl | rfl | rfl
        · exact good0 hm0
        · exact good1 hm1
        · exact good2 hm2
        · exact al15
        · exact good4 hm3
      have K15 : Keep [] H H15 := Keep.fresh K2 W15.keep (by simpa using fb)

      clear hf hg15 al15 hm0 hm1 hm2 hm3 W W3 W4 W5 W6 W7 W8 W9 W10 W11 W12 W13 W14 W15 kp15 kp14 kp6 kpg kp5 k10 kp9 kp4' kp3 kp2 kp4 kp1 hb14 hb9 hb6 hb4 hp1 hp2 hp3 hp4 hp5 hp6 hpg np1 np2 np3 np4 np5 np6 npg hal pu pg jd2 K2 h2 ok4 ok6 ok9 nal ndal neal bok

      refine fun D hD => ?_
      refine lc_rg (fun i H' => Keep [] H15 H' ∧ ∃ ps : List Addr, ps.length = i ∧ H' D = some (.lst (ps.map V.ref)) ∧ ∀ p ∈ ps, H' p = some (.lst [.str (Str.ofString "good")])) ⟨keep_new hD, [], rfl, upd_same, fun p hp => by cases hp⟩ (fun i3 H16 hi3 h => ?_) (fun H16 h => ?_)
      · obtain ⟨k16, ps, hl, hd, hps⟩ := h
        walk_at "rd"
        have i3' : i3 < 3 := hi3
        refine ⟨j, p, g, f 0, f 1, f 2, f 3, f 4, 0 + (i3 : Int), 5, .non, rfl, by omega, by omega, k16 _ _ hg (by simp), jd15.keep k16, first_ok (fun n hn => (gd n hn).keepM lm0 k16), told_good (NewS.mk fun t H17 nt st kt ht => ?_)⟩
        have hd17 := kt _ _ hd (by simp)
        have ntD : t ≠ D := fun e => by
          rw [e, hd] at nt
          cases nt
        refine ⟨_, hd17, size_ok (by rw [List.length_map]; omega), keep_free (k16.trans kt) hD, ps ++ [t], by simp [hl], by rw [upd_same, List.map_append]; rfl, fun u hu => ?_⟩
        rcases List.mem_append.mp hu with hu | hu
        · have a := hps u hu
          rw [upd_ne (ne_of a hd (good_ne ps))]
          exact kt _ _ a (by simp)
        · obtain rfl := List.mem_singleton.mp hu
          rw [upd_ne ntD]
          exact ht
      · obtain ⟨k16, ps, hl, hd, hps⟩ := h
        refine ⟨(show 1 ≤ sizeLine by decide), NewS.mk fun t1 H17 n1 s1 k1 h1 => ⟨(show 1 ≤ sizeLine by decide), NewS.mk fun t2 H18 n2 s2 k2 h2 => ?_⟩⟩
        refine ⟨t2, 3, _, rfl, rfl, h2, by decide, by decide, size_le (by show 1 * 3 ≤ 1000000; decide), fun t3 n3 => ?_⟩
        have k3 : Keep [] H18 (upd H18 t3 (.lst (List.replicate (3 : Int).toNat [V.ref t1]).flatten)) := keep_new n3
        have h3 : upd H18 t3 (.lst (List.replicate (3 : Int).toNat [V.ref t1]).flatten) t3 = some (.lst [.ref t1, .ref t1, .ref t1]) := upd_same
        generalize upd H18 t3 (.lst (List.replicate (3 : Int).toNat [V.ref t1]).flatten) = H19 at k3 h3 ⊢
        have k13 := (k1.trans k2).trans k3
        match ps, hl, hd, hps with
        | [a1, a2, a3], _, hd, hps =>
        have G : ∀ {u}, H19 u = some (.lst [.str (Str.ofString "good")]) → Dp K H19 (.ref u) (.list [.str (Str.ofString "good")]) := fun e => .lst (.inl (.inl e)) (.cons (.str _) .nil)
        have g1 := G ((k2.trans k3) _ _ h1 (by simp))
        refine ⟨.list [.list [.str (Str.ofString "good")], .list [.str (Str.ofString "good")], .list [.str (Str.ofString "good")]], .list [.list [.str (Str.ofString "good")], .list [.str (Str.ofString "good")], .list [.str (Str.ofString "good")]], .lst (.inl (.inl (k13 _ _ hd (by simp)))) (.cons (G (k13 _ _ (hps a1 (by simp)) (by simp))) (.cons (G (k13 _ _ (hps a2 (by simp)) (by simp))) (.cons (G (k13 _ _ (hps a3 (by simp)) (by simp))) .nil))), .lst (.inl (.inl h3)) (.cons g1 (.cons g1 (.cons g1 .nil))), by decide +kernel, by decide +kernel, ?_⟩
        refine ⟨_, rfl, ?_⟩
        refine ifF (by decide +kernel) ?_
        have K19 : Keep [] H15 H19 := k16.trans k13
        have hg19 := K19 _ _ hg (by simp)
        have hb19 := K19 _ _ hb15 (by simp)
        have jd19 := jd15.keep K19
        have gd19 : ∀ n, n < 5 → GoodAt A H19 n (f n) := fun n hn => (gd n hn).keepM lm0 K19
        have KH19 := K15.trans K19
        clear g1 G k13 k3 h3 n3 k2 h2 s2 n2 k1 h1 s1 n1 hps hd k16 gd jd15 hb15 K15 hg hD K19
        refine ⟨_, rfl, g, _, rfl, .inl (.inl (.inl hg19)), NewO.mk fun tl H20 ntl k20 htl => ⟨Nat.zero_le _, NewS.mk fun pl H21 npl spl k21 hpl => ?_⟩⟩
        refine ⟨_, _, rfl, ?_⟩
        have K21 := k20.trans k21
        have hb21 := K21 _ _ hb19 (by simp)
        have htl21 := k21 _ _ htl (by simp)
        have jd21 := jd19.keep K21
        have gd21 : ∀ n, n < 5 → GoodAt A H21 n (f n) := fun n hn => (gd19 n hn).keepM lm0 K21
        have KH21 := KH19.trans K21
        have ftl : H tl = none := KH19.free ntl
        have fpl : H pl = none := (KH19.trans k20).free npl
        have n1 : tl ≠ b := fun e => by
          rw [e, hb19] at ntl
          cases ntl
        have n2 : pl ≠ b := fun e => by
          rw [e, k20 _ _ hb19 (by simp)] at npl
          cases npl
        have n3 : pl ≠ tl := fun e => by
          rw [e, htl] at npl
          cases npl
        clear K21 k20 k21 hg19 hb19 jd19 gd19 KH19 ntl npl htl spl
        walk_at "rd"
        refine ⟨b, _, _, _, _, _, rfl, hb21, ok14, by decide, by decide, by decide, fun d x y z H22 d0 d1 ok22 k22 hb22 => ?_⟩
        refine ⟨_, _, rfl, rfl, _, rfl, by omega, by omega, ?_⟩
        have htl22 := k22 _ _ htl21 (by simpa using n1)
        have hpl22 := k22 _ _ hpl (by simpa using n2)
        have jd22 := jd21.keepM (bl hb21) k22
        have gd22 : ∀ n, n < 5 → GoodAt A H22 n (f n) := fun n hn => (gd21 n hn).keepM (bl hb21) k22
        have KH22 : Keep [] H H22 := Keep.fresh KH21 k22 (by simpa using fb)
        clear k22 hb21 jd21 gd21 KH21 htl21 hpl ok14
        have ok22' : BagOk 10 x y z := ok22.mono (by decide)
        clear ok22
        refine for_rg (fun u σ H' => (∃ y8 y9 y10 y11 y12 y13, σ = [some (.ref sa), some (.ref p), some (.ref j), some (.int (0 + (i : Int))), some (.ref b), some (.ref g), some (.ref tl), some (.ref pl), y8, y9, y10, y11, y12, y13]) ∧ Turn A H' j p b tl pl u ∧ Keep [] H H') ⟨⟨_, _, _, _, _, _, rfl⟩, ⟨x, y, z, f, [], ok22', hb22, htl22, hpl22, rfl, (fun _ h => by cases h), (fun n hn => ⟨(fun h => by cases h), fun _ => gd22 n hn⟩), jd22⟩, KH22⟩ ?_ ?_
        · clear jd22 gd22 KH22 htl22 hpl22 hb22 ok22'
          rintro u σ H1 hu ⟨⟨y8, y9, y10, y11, y12, y13, rfl⟩, ⟨x, y, z, f, ps, okT, hbT, htT, hpT, hlT, hrT, hsT, jdT⟩, KT⟩
          have hu3 : u < 3 := by
            have hu : u < (1 + d).toNat := hu
            omega
          refine ⟨_, rfl, b, _, _, _, _, _, rfl, hbT, okT, by omega, by decide, by decide, fun at_ x1 y1 z1 H2 a0 a1 ok2 k2 hb2 => ?_⟩
          obtain ⟨n, rfl⟩ := Int.eq_ofNat_of_zero_le a0
          have n5 : n < 5 := by omega
          have hst2 := k2 _ _ htT (by simpa using n1)
          have hpt2 := k2 _ _ hpT (by simpa using n2)
          refine ⟨_, rfl, _, rfl, b, _, x1, y1, z1, (n : Int), rfl, hb2, ok2, by omega, a0, by omega, fun v x3 y3' z3 H3 ok3 k3 hb3 bad fresh => ?_⟩
          have hst3 := k3 _ _ hst2 (by simpa using n1)
          have hpt3 := k3 _ _ hpt2 (by simpa using n2)
          have vL : ∀ a, v = .ref a → a ∉ [b, tl, pl] := fun a e hm => by
            have z := fresh a e
            simp only [List.mem_cons, List.not_mem_nil, or_false] at hm
            rcases hm with rfl | rfl | rfl
            · rw [hb2] at z; cases z
            · rw [hst2] at z; cases z
            · rw [hpt2] at z; cases z
          refine ⟨_, rfl, _, rfl, tl, five f, _, n, rfl, rfl, hst3, ix_five n5, ⟨fun H4 k4 h4 => ?_⟩⟩
          have hpt4 := k4 _ _ hpt3 (by simpa using n3)
          have hb4 := k4 _ _ hb3 (by simpa using Ne.symm n1)
          refine ⟨_, rfl, .inl ⟨rfl, _, .inl (.inl hpt4)⟩, _, rfl, pl, ps.map V.int, _, rfl, rfl, hpt4, size_ok (by rw [List.length_map]; omega), ⟨fun H5 k5 h5 => ?_⟩⟩
          have hb5 := k5 _ _ hb4 (by simpa using Ne.symm n2)
          have hst5 := k5 _ _ h4 (by simpa using Ne.symm n3)
          rw [five_set n5] at hst5
          have l3 : LM2 [tl] H3 := fun a ha => by rw [List.mem_singleton.mp ha]; exact ⟨_, hst3, lx_five _ _ _ _ _⟩
          have l4 : LM2 [pl] H4 := fun a ha => by rw [List.mem_singleton.mp ha]; exact ⟨_, hpt4, lx_ints _⟩
          have jd5 : Jd A H5 j p := (((jdT.keepM (bl hbT) k2).keepM (bl hb2) k3).keepM l3 k4).keepM l4 k5
          have KH5 : Keep [] H H5 := Keep.fresh (Keep.fresh (Keep.fresh (Keep.fresh KT k2 (by simpa using fb)) k3 (by simpa using fb)) k4 (by simpa using ftl)) k5 (by simpa using fpl)
          have bad5 : BadAt H5 n v := (bad.keepA fun a o e ho => k4 a o ho fun hm => vL a e (by rw [List.mem_singleton.mp hm]; simp)).keepA fun a o e ho => k5 a o ho fun hm => vL a e (by rw [List.mem_singleton.mp hm]; simp)
          refine ⟨⟨_, _, _, _, _, _, rfl⟩, ⟨x3, y3', z3, fun m => if m = n then v else f m, ps ++ [(n : Int)], ok3.mono (by omega), hb5, hst5, by rw [h5, List.map_append]; rfl, by rw [List.length_append, List.length_singleton, hlT], fun y hy => ?_, fun m hm => ?_, jd5⟩, KH5⟩
          · rcases List.mem_append.mp hy with hy | hy
            · exact hrT y hy
            · rw [List.mem_singleton.mp hy]
              omega
          · by_cases c : m = n
            · subst c
              show Slot A H5 _ _ m (if m = m then v else f m)
              rw [if_pos rfl]
              exact ⟨fun _ => ⟨bad5, vL⟩, fun no => absurd (by simp) no⟩
            · show Slot A H5 _ _ m (if m = n then v else f m)
              rw [if_neg c]
              have bs : Slot A H5 [b, tl, pl] ps m (f m) := ((((hsT m hm).keepM (by simp) (bl hbT) k2).keepM (by simp) (bl hb2) k3).keepM (by simp) l3 k4).keepM (by simp) l4 k5
              have e : ((m : Int) ∈ ps ++ [(n : Int)]) ↔ (m : Int) ∈ ps := by
                rw [List.mem_append, List.mem_singleton]
                exact ⟨fun z => z.elim id fun z => absurd (by omega) c, .inl⟩
              exact ⟨fun z => bs.1 (e.mp z), fun z => bs.2 fun y => z (e.mpr y)⟩
        · clear jd22 gd22 KH22 htl22 hpl22 hb22 ok22'
          rintro σ H1 ⟨⟨y8, y9, y10, y11, y12, y13, rfl⟩, ⟨x, y, z, f, ps, okT, hbT, htT, hpT, hlT, hrT, hsT, jdT⟩, KT⟩
          have l1 : 0 < ps.length := by rw [hlT]; omega
          refine ⟨_, rfl, pl, ps, rfl, .inl (.inl hpT), l1, fun mI hm hle => ?_⟩
          obtain ⟨r0, r4⟩ := hrT mI hm
          obtain ⟨m, rfl⟩ := Int.eq_ofNat_of_zero_le r0
          have m5 : m < 5 := by omega
          have fi : First A H1 (f 0) (f 1) (f 2) (f 3) (f 4) m (f m) := first_of hsT hm hle m5
          obtain ⟨⟨e, he, _⟩, _⟩ := ((hsT m m5).1 hm).1
          have okT' : BagOk 20 x y z := okT.mono (by omega)
          clear hsT hm hle r0 r4 l1 hrT hpT okT
          refine ⟨(show 5 ≤ sizeLine by decide), NewS.mk fun pw H2 nw sw kw hw => ?_⟩
          refine ⟨_, rfl, pw, _, _, _, rfl, rfl, .inl (.inl hw), at_wd m5, ?_⟩
          refine ⟨_, rfl, _, rfl, tl, five f, _, _, rfl, rfl, .inl (.inl (kw _ _ htT (by simp))), at_five m5, ?_⟩
          refine ⟨(show 3 ≤ sizeLine by decide), NewS.mk fun du H3 nd3 sd kd hdu => ?_⟩
          have kk := kw.trans kd
          have ht3 := kk _ _ htT (by simp)
          have hb3 := kk _ _ hbT (by simp)
          have jd3 := jdT.keep kk
          have fi3 := fi.keep kk
          have he3 := he.keep kk
          have K3 := KT.trans kk
          obtain ⟨dqD, shD⟩ := he3.tri (wd_ok m) hdu sd
          clear kk kw kd hw nw sw nd3 fi he jdT htT hbT KT
          refine ⟨_, rfl, by decide, by decide, ?_⟩
          refine for_rg (fun u σ H' => (∃ y12 y13, σ = [some (.ref sa), some (.ref p), some (.ref j), some (.int (0 + (i : Int))), some (.ref b), some (.ref g), some (.ref tl), some (.ref pl), y8, y9, some (.int (m : Int)), some (.ref du), y12, y13]) ∧ Keep [] H3 H') ⟨⟨_, _, rfl⟩, Keep.refl⟩ ?_ ?_
          · rintro u σ H4 hu ⟨⟨y12, y13, rfl⟩, k4⟩
            have hu3 : u < 3 := hu
            walk_at "rd"
            refine ifVI (fun c0 => ?_) (fun c0 => ?_)
            · walk_at "rd"
              refine ifVI (fun c1 => ?_) (fun c1 => ?_)
              · refine ⟨(show 1 ≤ sizeLine by decide), NewS.mk fun ex H5 nex sex kex hex => ?_⟩
                have kx := k4.trans kex
                refine ⟨_, rfl, _, rfl, _, rfl, j, p, tl, f 0, f 1, f 2, f 3, f 4, 0 + (u : Int), m, f m, rfl, by omega, by omega, kx _ _ ht3 (by simp), jd3.keep kx, fi3.keep kx, told_mk m5 ?_⟩
                rw [exp_good (by omega)]
                refine NewS.mk fun rs H6 nr sr kr hr6 => ?_
                refine .inl ⟨rs, .list [.str (Str.ofString "good")], rfl, .lst hr6 sr (.cons (.str _) .nil), by decide +kernel, by decide +kernel, size_le (by decide +kernel), ?_⟩
                refine ⟨_, rfl, .inl ⟨ex, .list [.str (Str.ofString "good")], rfl, .lst (kr _ _ hex (by simp)) sex (.cons (.str _) .nil), by decide +kernel, by decide +kernel, size_le (by decide +kernel), ?_⟩⟩
                generalize (PyData.list [.str (Str.ofString "good")]).shown = sh
                walk_at "rd"
                refine ifF (by simp) ?_
                exact ⟨⟨_, _, rfl⟩, kx.trans kr⟩
              · walk_at "rd"
                have kx := k4
                refine ⟨j, p, tl, f 0, f 1, f 2, f 3, f 4, 0 + (u : Int), m, f m, rfl, by omega, by omega, kx _ _ ht3 (by simp), jd3.keep kx, fi3.keep kx, told_mk m5 ?_⟩
                rw [exp_due (by omega)]
                refine NewS.mk fun rs H6 nr sr kr hr6 => ?_
                obtain ⟨d1, f1, f2, f3⟩ := (he3.keep (kx.trans kr)).tri (wd_ok m) hr6 sr
                obtain ⟨d2, _, _, _⟩ := (he3.keep (kx.trans kr)).tri (wd_ok m) ((kx.trans kr) _ _ hdu (by simp)) sd
                refine .inl ⟨rs, _, rfl, d1, f1, f2, f3, ?_⟩
                refine ⟨_, rfl, .inl ⟨du, _, rfl, d2, f1, f2, f3, ?_⟩⟩
                generalize (PyData.list [.str (wd m), e, .bool true]).shown = sh
                walk_at "rd"
                refine ifF (by simp) ?_
                exact ⟨⟨_, _, rfl⟩, kx.trans kr⟩
            · walk_at "rd"
              have kx := k4
              refine ⟨j, p, tl, f 0, f 1, f 2, f 3, f 4, 0 + (u : Int), m, f m, rfl, by omega, by omega, kx _ _ ht3 (by simp), jd3.keep kx, fi3.keep kx, told_mk m5 ?_⟩
              rw [exp_due (by omega)]
              refine NewS.mk fun rs H6 nr sr kr hr6 => ?_
              obtain ⟨d1, f1, f2, f3⟩ := (he3.keep (kx.trans kr)).tri (wd_ok m) hr6 sr
              obtain ⟨d2, _, _, _⟩ := (he3.keep (kx.trans kr)).tri (wd_ok m) ((kx.trans kr) _ _ hdu (by simp)) sd
              refine .inl ⟨rs, _, rfl, d1, f1, f2, f3, ?_⟩
              refine ⟨_, rfl, .inl ⟨du, _, rfl, d2, f1, f2, f3, ?_⟩⟩
              generalize (PyData.list [.str (wd m), e, .bool true]).shown = sh
              walk_at "rd"
              refine ifF (by simp) ?_
              exact ⟨⟨_, _, rfl⟩, kx.trans kr⟩
          · rintro σ H4 ⟨⟨y12, y13, rfl⟩, k4⟩
            have hb4 := k4 _ _ hb3 (by simp)
            have W := Ow.start1 hb4
            walk_at "rd"
            rename_i q1 H5 nq1 kq1 hq1 W5
            refine fun D2 nD2 => ⟨(show 1 ≤ sizeLine by decide), NewS.mk fun q2 H6 nq2 sq2 kq2 hq2 => ?_⟩
            have hD6 := kq2 _ _ (show upd H5 D2 (.dK []) D2 = some (.dK []) from upd_same) (by simp)
            refine ⟨hD6, [(.inr (Str.ofString "ann"), .ref q2)], rfl, by show 1 ≤ 15; decide, ?_⟩
            have K57 : Keep [] H5 (upd H6 D2 (.dK (mergeK [] [(.inr (Str.ofString "ann"), .ref q2)]))) := keep_free ((keep_new nD2).trans kq2) nD2
            have hD7 : upd H6 D2 (.dK (mergeK [] [(.inr (Str.ofString "ann"), .ref q2)])) D2 = some (.dK [(.inr (Str.ofString "ann"), .ref q2)]) := upd_same
            have hq7 : upd H6 D2 (.dK (mergeK [] [(.inr (Str.ofString "ann"), .ref q2)])) q2 = some (.lst [.str (Str.ofString "staff")]) := by rw [upd_ne (ne_of hq2 hD6 (fun z => by cases z))]; exact hq2
            generalize upd H6 D2 (.dK (mergeK [] [(.inr (Str.ofString "ann"), .ref q2)])) = H7 at K57 hD7 hq7 ⊢
            refine FR.withN W5 nD2 K57 hD7 ?_
            intro W7
            walk_at "rd"
            rename_i q8 H8 nq8 sq8 kq8 hq8 W8 q9 H9 nq9 sq9 kq9 hq9 W9
            walk_at "take"
            rename_i d' xa ya za H10 e0 e1 oka kpa hba W10
            obtain ⟨v, hv, hmv⟩ := lst_at (W10.get 0 rfl) rfl e0 e1
            refine ⟨_, _, _, _, rfl, rfl, W10.sq 0 rfl, hv, ?_⟩
            have h29 := (kq8.trans kq9) _ _ hq7 (by simp)
            have nb2 : q2 ≠ b := ne_of h29 (W9.get 4 rfl) (fun z => by cases z)
            have h2q := kpa _ _ h29 (by simpa using nb2)
            have KK : Keep [] H H10 := Keep.fresh (K3.trans k4) W10.keep (by simpa using fb)
            have jd10 : Jd A H10 j p := (jd3.keep k4).keepM (bl hb4) W10.keep
            refine ⟨v, rfl, ?_, fun H' k' => ⟨_, rfl, ?_⟩⟩
            · simp only [List.mem_cons, List.not_mem_nil, or_false] at hmv
              rcases hmv with rfl | rfl | rfl | rfl | rfl | rfl | rfl
              · exact ⟨"NoneType", false, fun H' k => ⟨.base .non, .inl ⟨.none, .non, by decide +kernel, by decide +kernel⟩⟩, T.kt_People_NoneType, by decide +kernel⟩
              · exact ⟨"int", false, fun H' k => ⟨.base (.int _), .inl ⟨.int 7, .int _, by decide +kernel, by decide +kernel⟩⟩, T.kt_People_int, by decide +kernel⟩
              · exact ⟨"dict", false, fun H' k => ⟨.base (.dK (k _ _ (W10.get 3 rfl) (by simp))), .inr (.inr ⟨q1, [], [], rfl, Rd.of (k _ _ (W10.get 3 rfl) (by simp)), .nil, rfl⟩)⟩, T.kt_People_dict, by decide +kernel⟩
              · exact ⟨"dict", false, fun H' k => ⟨.base (.dK (k _ _ (W10.get 2 rfl) (by simp))), .inr (.inr ⟨D2, _, [(.inr (Str.ofString "ann"), .list [.str (Str.ofString "staff")])], rfl, Rd.of (k _ _ (W10.get 2 rfl) (by simp)), .cons ⟨rfl, .lst (.inl (.inl (k _ _ h2q (by simp)))) (.cons (.str _) .nil), by decide +kernel⟩ .nil, by decide +kernel⟩)⟩, T.kt_People_dict, by decide +kernel⟩
              · exact ⟨"list", false, fun H' k => ⟨.base (.lst (k _ _ (W10.get 1 rfl) (by simp))), .inr (.inl ⟨q8, _, rfl, .inl (.inl (k _ _ (W10.get 1 rfl) (by simp)))⟩)⟩, T.kt_People_list, by decide +kernel⟩
              · exact ⟨"bool", true, fun H' k => ⟨.base (.bl _), .inl ⟨.bool true, .bl _, by decide +kernel, by decide +kernel⟩⟩, T.kt_People_bool, by decide +kernel⟩
              · exact ⟨"str", false, fun H' k => ⟨.base (.str _), .inl ⟨.str (Str.ofString "ann"), .str _, by decide +kernel, by decide +kernel⟩⟩, T.kt_People_str, by decide +kernel⟩
            · refine ifF rfl ?_
              exact ⟨⟨_, _, _, _, _, _, _, _, _, _, _, rfl⟩, jd10.keep k', KK.trans k'⟩
    · rintro σ H1 ⟨⟨y3, y4, y5, y6, y7, y8, y9, y10, y11, y12, y13, rfl⟩, jd1, K1⟩
      exact q H1
end
end K28
namespace K28

open PySem PySem.Spec PyProof.Rows L2 FR TL
theorem all_mk {P : Program} {w : World} {K : PySem.W.Frag} {h : Heap} {mg : Str → Option Value} {fa : Addr} (X : K.In h) (G : h.Ns mainGlobals mg) (hfa : mg "law" = some (.ref fa))
    {O0 : Addr} {cdo0 : ClassData}
    {O1 : Addr} {cdo1 : ClassData}
    {O2 : Addr} {cdo2 : ClassData}
    {O3 : Addr} {cdo3 : ClassData}
    {f0 : Addr} {od0 an0 : Option Addr} {sl0 : Array (Option Value)} {oc0 kV0 dc0 pm0 cd0 ct0 : Value}
    {f1 : Addr} {od1 an1 : Option Addr} {sl1 : Array (Option Value)} {oc1 kV1 dc1 pm1 cd1 ct1 : Value}
    {f2 : Addr} {od2 an2 : Option Addr} {sl2 : Array (Option Value)} {oc2 kV2 dc2 pm2 cd2 ct2 : Value}
    {f3 : Addr} {od3 an3 : Option Addr} {sl3 : Array (Option Value)} {oc3 kV3 dc3 pm3 cd3 ct3 : Value}
    {f4 : Addr} {od4 an4 : Option Addr} {sl4 : Array (Option Value)} {oc4 kV4 dc4 pm4 cd4 ct4 : Value}
    {f5 : Addr} {od5 an5 : Option Addr} {sl5 : Array (Option Value)} {oc5 kV5 dc5 pm5 cd5 ct5 : Value}
    {f6 : Addr} {od6 an6 : Option Addr} {sl6 : Array (Option Value)} {oc6 kV6 dc6 pm6 cd6 ct6 : Value}
    {f7 : Addr} {od7 an7 : Option Addr} {sl7 : Array (Option Value)} {oc7 kV7 dc7 pm7 cd7 ct7 : Value}
    {f8 : Addr} {od8 an8 : Option Addr} {sl8 : Array (Option Value)} {oc8 kV8 dc8 pm8 cd8 ct8 : Value}
    {f9 : Addr} {od9 an9 : Option Addr} {sl9 : Array (Option Value)} {oc9 kV9 dc9 pm9 cd9 ct9 : Value}
    {f10 : Addr} {od10 an10 : Option Addr} {sl10 : Array (Option Value)} {oc10 kV10 dc10 pm10 cd10 ct10 : Value}
    {f11 : Addr} {od11 an11 : Option Addr} {sl11 : Array (Option Value)} {oc11 kV11 dc11 pm11 cd11 ct11 : Value}
    {f12 : Addr} {od12 an12 : Option Addr} {sl12 : Array (Option Value)} {oc12 kV12 dc12 pm12 cd12 ct12 : Value}
    {f13 : Addr} {od13 an13 : Option Addr} {sl13 : Array (Option Value)} {oc13 kV13 dc13 pm13 cd13 ct13 : Value}
    {f14 : Addr} {od14 an14 : Option Addr} {sl14 : Array (Option Value)} {oc14 kV14 dc14 pm14 cd14 ct14 : Value}
    {f15 : Addr} {od15 an15 : Option Addr} {sl15 : Array (Option Value)} {oc15 kV15 dc15 pm15 cd15 ct15 : Value}
    {f16 : Addr} {od16 an16 : Option Addr} {sl16 : Array (Option Value)} {oc16 kV16 dc16 pm16 cd16 ct16 : Value}
    {f17 : Addr} {od17 an17 : Option Addr} {sl17 : Array (Option Value)} {oc17 kV17 dc17 pm17 cd17 ct17 : Value}
    {f18 : Addr} {od18 an18 : Option Addr} {sl18 : Array (Option Value)} {oc18 kV18 dc18 pm18 cd18 ct18 : Value}
    {f19 : Addr} {od19 an19 : Option Addr} {sl19 : Array (Option Value)} {oc19 kV19 dc19 pm19 cd19 ct19 : Value}
    {f20 : Addr} {od20 an20 : Option Addr} {sl20 : Array (Option Value)} {oc20 kV20 dc20 pm20 cd20 ct20 : Value}
    {f21 : Addr} {od21 an21 : Option Addr} {sl21 : Array (Option Value)} {oc21 kV21 dc21 pm21 cd21 ct21 : Value}
    {f22 : Addr} {od22 an22 : Option Addr} {sl22 : Array (Option Value)} {oc22 kV22 dc22 pm22 cd22 ct22 : Value}
    {f23 : Addr} {od23 an23 : Option Addr} {sl23 : Array (Option Value)} {oc23 kV23 dc23 pm23 cd23 ct23 : Value}
    {f24 : Addr} {od24 an24 : Option Addr} {sl24 : Array (Option Value)} {oc24 kV24 dc24 pm24 cd24 ct24 : Value}
    {f25 : Addr} {od25 an25 : Option Addr} {sl25 : Array (Option Value)} {oc25 kV25 dc25 pm25 cd25 ct25 : Value}
    {DT25 : Addr} {dto25 : Obj} {dti25 : List Value} {dtn25 : Nat}
    {f26 : Addr} {od26 an26 : Option Addr} {sl26 : Array (Option Value)} {oc26 kV26 dc26 pm26 cd26 ct26 : Value}
    {P26 : Addr} {pr26 : List Value}
    {f27 : Addr} {od27 an27 : Option Addr} {sl27 : Array (Option Value)} {oc27 kV27 dc27 pm27 cd27 ct27 : Value}
    {P27 : Addr} {pr27 : List Value}
    {f28 : Addr} {od28 an28 : Option Addr} {sl28 : Array (Option Value)} {oc28 kV28 dc28 pm28 cd28 ct28 : Value}
    {P28 : Addr} {pr28 : List Value}
    {f31 : Addr} {od31 an31 : Option Addr} {sl31 : Array (Option Value)} {oc31 kV31 dc31 pm31 cd31 ct31 : Value}
    {f42 : Addr} {od42 an42 : Option Addr} {sl42 : Array (Option Value)} {oc42 dc42 pm42 cd42 ct42 : Value}
    {D42 : Addr} 
    {f43 : Addr} {od43 an43 : Option Addr} {sl43 : Array (Option Value)} {oc43 kV43 dc43 pm43 cd43 ct43 : Value}
    {f47 : Addr} {od47 an47 : Option Addr} {sl47 : Array (Option Value)} {oc47 kV47 dc47 pm47 cd47 ct47 : Value}
    {P47 : Addr} {pr47 : List Value}
    {f48 : Addr} {od48 an48 : Option Addr} {sl48 : Array (Option Value)} {oc48 kV48 dc48 pm48 cd48 ct48 : Value}
    {P48 : Addr} {pr48 : List Value}
    {f49 : Addr} {od49 an49 : Option Addr} {sl49 : Array (Option Value)} {oc49 kV49 dc49 pm49 cd49 ct49 : Value}
    {P49 : Addr} {pr49 : List Value}
    {f50 : Addr} {od50 an50 : Option Addr} {sl50 : Array (Option Value)} {oc50 kV50 dc50 pm50 cd50 ct50 : Value}
    {P50 : Addr} {pr50 : List Value}
    {f53 : Addr} {od53 an53 : Option Addr} {sl53 : Array (Option Value)} {oc53 kV53 dc53 pm53 cd53 ct53 : Value}
    {f54 : Addr} {od54 an54 : Option Addr} {sl54 : Array (Option Value)} {oc54 kV54 dc54 pm54 cd54 ct54 : Value}
    {f66 : Addr} {od66 an66 : Option Addr} {sl66 : Array (Option Value)} {oc66 kV66 dc66 pm66 cd66 ct66 : Value}
    {f68 : Addr} {od68 an68 : Option Addr} {sl68 : Array (Option Value)} {oc68 kV68 dc68 pm68 cd68 ct68 : Value}
    {f69 : Addr} {od69 an69 : Option Addr} {sl69 : Array (Option Value)} {oc69 kV69 dc69 pm69 cd69 ct69 : Value}
    {f72 : Addr} {od72 an72 : Option Addr} {sl72 : Array (Option Value)} {oc72 kV72 dc72 pm72 cd72 ct72 : Value}
    {f76 : Addr} {od76 an76 : Option Addr} {sl76 : Array (Option Value)} {oc76 kV76 dc76 pm76 cd76 ct76 : Value}
    {f77 : Addr} {od77 an77 : Option Addr} {sl77 : Array (Option Value)} {oc77 kV77 dc77 pm77 cd77 ct77 : Value}
    {f78 : Addr} {od78 an78 : Option Addr} {sl78 : Array (Option Value)} {oc78 kV78 dc78 pm78 cd78 ct78 : Value}
    {f79 : Addr} {od79 an79 : Option Addr} {sl79 : Array (Option Value)} {oc79 kV79 dc79 pm79 cd79 ct79 : Value}
    {f80 : Addr} {od80 an80 : Option Addr} {sl80 : Array (Option Value)} {oc80 kV80 dc80 pm80 cd80 ct80 : Value}
    {K0 : Addr}
    {K1 : Addr}
    {K2 : Addr}
    {K3 : Addr}
    {K4 : Addr}
    {K5 : Addr}
    {K6 : Addr}
    {J2 : Addr} {nm2 qu2 : Str} {N2 bs2 sn2 sub2 : _} {ab2 col2 dd2 m02 m12 m22 m32 m52 : _} {ioc2 idc2 ipm2 icd2 ict2 : Value} {iod2 ian2 : Option Addr} {isl2 : Array (Option Value)} {pa2 pb2 pc2 pd2 pe2 pf2 : Pos}
    {J3 : Addr} {nm3 qu3 : Str} {N3 bs3 sn3 sub3 : _} {ab3 col3 dd3 m03 m13 m23 m33 m53 : _} {ioc3 idc3 ipm3 icd3 ict3 : Value} {iod3 ian3 : Option Addr} {isl3 : Array (Option Value)} {pa3 pb3 pc3 pd3 pe3 pf3 : Pos}
    {J4 : Addr} {nm4 qu4 : Str} {N4 bs4 sn4 sub4 : _} {ab4 col4 dd4 m04 m14 m24 m34 m54 : _} {ioc4 idc4 ipm4 icd4 ict4 : Value} {iod4 ian4 : Option Addr} {isl4 : Array (Option Value)} {pa4 pb4 pc4 pd4 pe4 pf4 : Pos}
    {J5 : Addr} {nm5 qu5 : Str} {N5 bs5 sn5 sub5 : _} {ab5 col5 dd5 m05 m15 m25 m35 m55 : _} {ioc5 idc5 ipm5 icd5 ict5 : Value} {iod5 ian5 : Option Addr} {isl5 : Array (Option Value)} {pa5 pb5 pc5 pd5 pe5 pf5 : Pos}
    {J6 : Addr} {nm6 qu6 : Str} {N6 bs6 sn6 sub6 : _} {ab6 col6 dd6 m06 m16 m26 m36 m56 : _} {ioc6 idc6 ipm6 icd6 ict6 : Value} {iod6 ian6 : Option Addr} {isl6 : Array (Option Value)} {pa6 pb6 pc6 pd6 pe6 pf6 : Pos}
    {tc0 : Tok}
    {tc1 : Tok}
    {tc2 : Tok}
    {KD3 : Addr} {kes3 : Array DictEntry} {ken3 : Nat} {kt3_0 : Tok} {kt3_1 : Tok} {kt3_2 : Tok} {kt3_3 : Tok} {kt3_4 : Tok} {kt3_5 : Tok} {kt3_6 : Tok} {kt3_7 : Tok} {kt3_8 : Tok} {kt3_9 : Tok} {kt3_10 : Tok} {kt3_11 : Tok} {kt3_12 : Tok} {kt3_13 : Tok} {kt3_14 : Tok} {kt3_15 : Tok}
    {KD4 : Addr} {kto4 : Obj} {kti4 : Array Value} {ktn4 : Nat}
    {tc5 : Tok}
    {KD6 : Addr} {kes6 : Array DictEntry} {ken6 : Nat} {kt6_0 : Tok} {kt6_1 : Tok} {kt6_2 : Tok} {kt6_3 : Tok} {kt6_4 : Tok} {kt6_5 : Tok}
    {tc7 : Tok}
    {tc8 : Tok}
    (oa0 : PySem.W.nsIn K mainGlobals "Rights" = some (some (.ref O0)))
    (opg0 : PySem.W.plainGet K O0 Str.empty = true)
    (ohd0 : PySem.W.hasDictIn K O0 = true)
    (opo0 : PySem.W.plainOver K O0 = true)
    (osa0 : PySem.W.findIn K (.ref O0) "__setattr__" = some (some (.builtin "object.__setattr__")))
    (omk0 : PySem.W.makesIn K O0 = true)
    (okc0 : PySem.W.keepIn K (.ref O0) = true)
    (oca0 : PySem.W.findIn K (.ref O0) "__class__" = some (some (.builtin "object.__class__")))
    (ocn0 : PySem.W.specialIn K (.builtin "object.__class__") "__get__" = some (some (.builtin "getset_descriptor.__get__")))
    (oct0 : PySem.W.takesIn K (.builtin "object.__class__") = some true)
    (ocm0 : PySem.W.mroIn K O0 (.type "object") = some true)
    (osf0 : PySem.W.selfFirst K O0 = true)
    (ocd0 : PySem.W.clsIn K O0 = some cdo0)
    (omr0 : cdo0.mro = [.ref O0, .type "object"])
    (one0 : PySem.W.findIn K (.ref O0) "__ne__" = some (some (.builtin "object.__ne__")))
    (ona_digit0 : PySem.W.findIn K (.ref O0) "_digit" = some none)
    (onfNoneType0 : PySem.W.notFirst K O0 (.type "NoneType") = true)
    (onfbool0 : PySem.W.notFirst K O0 (.type "bool") = true)
    (onfint0 : PySem.W.notFirst K O0 (.type "int") = true)
    (onfstr0 : PySem.W.notFirst K O0 (.type "str") = true)
    (onflist0 : PySem.W.notFirst K O0 (.type "list") = true)
    (onftuple0 : PySem.W.notFirst K O0 (.type "tuple") = true)
    (onfdict0 : PySem.W.notFirst K O0 (.type "dict") = true)
    (ord0 : PySem.W.readsIn K O0 (.type "type") = true)
    (org0 : PySem.W.specialIn K (.ref O0) "__getattribute__" = some (some (.builtin "type.__getattribute__")))
    (oic0 : PySem.W.isClsIn K O0 = true)
    (oyt0 : PySem.W.typeIn K (.ref O0) = some (.type "type"))
    (oktNoneType0 : PySem.W.subIn K (.type "NoneType") (.ref O0) = some false)
    (oktbool0 : PySem.W.subIn K (.type "bool") (.ref O0) = some false)
    (oktint0 : PySem.W.subIn K (.type "int") (.ref O0) = some false)
    (oktstr0 : PySem.W.subIn K (.type "str") (.ref O0) = some false)
    (oktlist0 : PySem.W.subIn K (.type "list") (.ref O0) = some false)
    (okttuple0 : PySem.W.subIn K (.type "tuple") (.ref O0) = some false)
    (oktdict0 : PySem.W.subIn K (.type "dict") (.ref O0) = some false)
    (oa1 : PySem.W.nsIn K mainGlobals "AccessList" = some (some (.ref O1)))
    (opg1 : PySem.W.plainGet K O1 Str.empty = true)
    (ohd1 : PySem.W.hasDictIn K O1 = true)
    (opo1 : PySem.W.plainOver K O1 = true)
    (osa1 : PySem.W.findIn K (.ref O1) "__setattr__" = some (some (.builtin "object.__setattr__")))
    (omk1 : PySem.W.makesIn K O1 = true)
    (okc1 : PySem.W.keepIn K (.ref O1) = true)
    (oca1 : PySem.W.findIn K (.ref O1) "__class__" = some (some (.builtin "object.__class__")))
    (ocn1 : PySem.W.specialIn K (.builtin "object.__class__") "__get__" = some (some (.builtin "getset_descriptor.__get__")))
    (oct1 : PySem.W.takesIn K (.builtin "object.__class__") = some true)
    (ocm1 : PySem.W.mroIn K O1 (.type "object") = some true)
    (osf1 : PySem.W.selfFirst K O1 = true)
    (ocd1 : PySem.W.clsIn K O1 = some cdo1)
    (omr1 : cdo1.mro = [.ref O1, .type "object"])
    (one1 : PySem.W.findIn K (.ref O1) "__ne__" = some (some (.builtin "object.__ne__")))
    (ona_owner1 : PySem.W.findIn K (.ref O1) "_owner" = some none)
    (ona_group1 : PySem.W.findIn K (.ref O1) "_group" = some none)
    (ona_other1 : PySem.W.findIn K (.ref O1) "_other" = some none)
    (ona_users1 : PySem.W.findIn K (.ref O1) "_users" = some none)
    (ona_groups1 : PySem.W.findIn K (.ref O1) "_groups" = some none)
    (ona_mask1 : PySem.W.findIn K (.ref O1) "_mask" = some none)
    (onfNoneType1 : PySem.W.notFirst K O1 (.type "NoneType") = true)
    (onfbool1 : PySem.W.notFirst K O1 (.type "bool") = true)
    (onfint1 : PySem.W.notFirst K O1 (.type "int") = true)
    (onfstr1 : PySem.W.notFirst K O1 (.type "str") = true)
    (onflist1 : PySem.W.notFirst K O1 (.type "list") = true)
    (onftuple1 : PySem.W.notFirst K O1 (.type "tuple") = true)
    (onfdict1 : PySem.W.notFirst K O1 (.type "dict") = true)
    (ord1 : PySem.W.readsIn K O1 (.type "type") = true)
    (org1 : PySem.W.specialIn K (.ref O1) "__getattribute__" = some (some (.builtin "type.__getattribute__")))
    (oic1 : PySem.W.isClsIn K O1 = true)
    (oyt1 : PySem.W.typeIn K (.ref O1) = some (.type "type"))
    (oktNoneType1 : PySem.W.subIn K (.type "NoneType") (.ref O1) = some false)
    (oktbool1 : PySem.W.subIn K (.type "bool") (.ref O1) = some false)
    (oktint1 : PySem.W.subIn K (.type "int") (.ref O1) = some false)
    (oktstr1 : PySem.W.subIn K (.type "str") (.ref O1) = some false)
    (oktlist1 : PySem.W.subIn K (.type "list") (.ref O1) = some false)
    (okttuple1 : PySem.W.subIn K (.type "tuple") (.ref O1) = some false)
    (oktdict1 : PySem.W.subIn K (.type "dict") (.ref O1) = some false)
    (oa2 : PySem.W.nsIn K mainGlobals "People" = some (some (.ref O2)))
    (opg2 : PySem.W.plainGet K O2 Str.empty = true)
    (ohd2 : PySem.W.hasDictIn K O2 = true)
    (opo2 : PySem.W.plainOver K O2 = true)
    (osa2 : PySem.W.findIn K (.ref O2) "__setattr__" = some (some (.builtin "object.__setattr__")))
    (omk2 : PySem.W.makesIn K O2 = true)
    (okc2 : PySem.W.keepIn K (.ref O2) = true)
    (oca2 : PySem.W.findIn K (.ref O2) "__class__" = some (some (.builtin "object.__class__")))
    (ocn2 : PySem.W.specialIn K (.builtin "object.__class__") "__get__" = some (some (.builtin "getset_descriptor.__get__")))
    (oct2 : PySem.W.takesIn K (.builtin "object.__class__") = some true)
    (ocm2 : PySem.W.mroIn K O2 (.type "object") = some true)
    (osf2 : PySem.W.selfFirst K O2 = true)
    (ocd2 : PySem.W.clsIn K O2 = some cdo2)
    (omr2 : cdo2.mro = [.ref O2, .type "object"])
    (one2 : PySem.W.findIn K (.ref O2) "__ne__" = some (some (.builtin "object.__ne__")))
    (ona_held2 : PySem.W.findIn K (.ref O2) "_held" = some none)
    (ona_groups2 : PySem.W.findIn K (.ref O2) "_groups" = some none)
    (onfNoneType2 : PySem.W.notFirst K O2 (.type "NoneType") = true)
    (onfbool2 : PySem.W.notFirst K O2 (.type "bool") = true)
    (onfint2 : PySem.W.notFirst K O2 (.type "int") = true)
    (onfstr2 : PySem.W.notFirst K O2 (.type "str") = true)
    (onflist2 : PySem.W.notFirst K O2 (.type "list") = true)
    (onftuple2 : PySem.W.notFirst K O2 (.type "tuple") = true)
    (onfdict2 : PySem.W.notFirst K O2 (.type "dict") = true)
    (ord2 : PySem.W.readsIn K O2 (.type "type") = true)
    (org2 : PySem.W.specialIn K (.ref O2) "__getattribute__" = some (some (.builtin "type.__getattribute__")))
    (oic2 : PySem.W.isClsIn K O2 = true)
    (oyt2 : PySem.W.typeIn K (.ref O2) = some (.type "type"))
    (oktNoneType2 : PySem.W.subIn K (.type "NoneType") (.ref O2) = some false)
    (oktbool2 : PySem.W.subIn K (.type "bool") (.ref O2) = some false)
    (oktint2 : PySem.W.subIn K (.type "int") (.ref O2) = some false)
    (oktstr2 : PySem.W.subIn K (.type "str") (.ref O2) = some false)
    (oktlist2 : PySem.W.subIn K (.type "list") (.ref O2) = some false)
    (okttuple2 : PySem.W.subIn K (.type "tuple") (.ref O2) = some false)
    (oktdict2 : PySem.W.subIn K (.type "dict") (.ref O2) = some false)
    (oa3 : PySem.W.nsIn K mainGlobals "Judge" = some (some (.ref O3)))
    (opg3 : PySem.W.plainGet K O3 Str.empty = true)
    (ohd3 : PySem.W.hasDictIn K O3 = true)
    (opo3 : PySem.W.plainOver K O3 = true)
    (osa3 : PySem.W.findIn K (.ref O3) "__setattr__" = some (some (.builtin "object.__setattr__")))
    (omk3 : PySem.W.makesIn K O3 = true)
    (okc3 : PySem.W.keepIn K (.ref O3) = true)
    (oca3 : PySem.W.findIn K (.ref O3) "__class__" = some (some (.builtin "object.__class__")))
    (ocn3 : PySem.W.specialIn K (.builtin "object.__class__") "__get__" = some (some (.builtin "getset_descriptor.__get__")))
    (oct3 : PySem.W.takesIn K (.builtin "object.__class__") = some true)
    (ocm3 : PySem.W.mroIn K O3 (.type "object") = some true)
    (osf3 : PySem.W.selfFirst K O3 = true)
    (ocd3 : PySem.W.clsIn K O3 = some cdo3)
    (omr3 : cdo3.mro = [.ref O3, .type "object"])
    (one3 : PySem.W.findIn K (.ref O3) "__ne__" = some (some (.builtin "object.__ne__")))
    (ona_people3 : PySem.W.findIn K (.ref O3) "_people" = some none)
    (ord3 : PySem.W.readsIn K O3 (.type "type") = true)
    (org3 : PySem.W.specialIn K (.ref O3) "__getattribute__" = some (some (.builtin "type.__getattribute__")))
    (oic3 : PySem.W.isClsIn K O3 = true)
    (oyt3 : PySem.W.typeIn K (.ref O3) = some (.type "type"))
    (a0 : PySem.W.nsIn K mainGlobals "_wall" = some (some (.ref f0)))
    (l0 : K.lookup f0 = some ⟨oc0, od0, .func (PySem.W.fnOf "_wall" "_wall" (defArgs s__wall) (defBody s__wall) (defScope s__wall) .none kV0 dc0 pm0 an0 cd0 ct0), sl0⟩)
    (c0 : PySem.W.codeIn K cd0 "_wall" = true) (k0 : PySem.W.keepIn K (.ref f0) = true)
    (a1 : PySem.W.nsIn K mainGlobals "is_integer" = some (some (.ref f1)))
    (l1 : K.lookup f1 = some ⟨oc1, od1, .func (PySem.W.fnOf "is_integer" "is_integer" (defArgs s_is_integer) (defBody s_is_integer) (defScope s_is_integer) .none kV1 dc1 pm1 an1 cd1 ct1), sl1⟩)
    (c1 : PySem.W.codeIn K cd1 "is_integer" = true) (k1 : PySem.W.keepIn K (.ref f1) = true)
    (a2 : PySem.W.nsIn K mainGlobals "is_name" = some (some (.ref f2)))
    (l2 : K.lookup f2 = some ⟨oc2, od2, .func (PySem.W.fnOf "is_name" "is_name" (defArgs s_is_name) (defBody s_is_name) (defScope s_is_name) .none kV2 dc2 pm2 an2 cd2 ct2), sl2⟩)
    (c2 : PySem.W.codeIn K cd2 "is_name" = true) (k2 : PySem.W.keepIn K (.ref f2) = true)
    (a3 : PySem.W.nsIn K mainGlobals "is_user_name" = some (some (.ref f3)))
    (l3 : K.lookup f3 = some ⟨oc3, od3, .func (PySem.W.fnOf "is_user_name" "is_user_name" (defArgs s_is_user_name) (defBody s_is_user_name) (defScope s_is_user_name) .none kV3 dc3 pm3 an3 cd3 ct3), sl3⟩)
    (c3 : PySem.W.codeIn K cd3 "is_user_name" = true) (k3 : PySem.W.keepIn K (.ref f3) = true)
    (a4 : PySem.W.nsIn K mainGlobals "is_list" = some (some (.ref f4)))
    (l4 : K.lookup f4 = some ⟨oc4, od4, .func (PySem.W.fnOf "is_list" "is_list" (defArgs s_is_list) (defBody s_is_list) (defScope s_is_list) .none kV4 dc4 pm4 an4 cd4 ct4), sl4⟩)
    (c4 : PySem.W.codeIn K cd4 "is_list" = true) (k4 : PySem.W.keepIn K (.ref f4) = true)
    (a5 : PySem.W.nsIn K mainGlobals "as_rights" = some (some (.ref f5)))
    (l5 : K.lookup f5 = some ⟨oc5, od5, .func (PySem.W.fnOf "as_rights" "as_rights" (defArgs s_as_rights) (defBody s_as_rights) (defScope s_as_rights) .none kV5 dc5 pm5 an5 cd5 ct5), sl5⟩)
    (c5 : PySem.W.codeIn K cd5 "as_rights" = true) (k5 : PySem.W.keepIn K (.ref f5) = true)
    (a6 : PySem.W.nsIn K mainGlobals "as_digit" = some (some (.ref f6)))
    (l6 : K.lookup f6 = some ⟨oc6, od6, .func (PySem.W.fnOf "as_digit" "as_digit" (defArgs s_as_digit) (defBody s_as_digit) (defScope s_as_digit) .none kV6 dc6 pm6 an6 cd6 ct6), sl6⟩)
    (c6 : PySem.W.codeIn K cd6 "as_digit" = true) (k6 : PySem.W.keepIn K (.ref f6) = true)
    (a7 : PySem.W.nsIn K mainGlobals "_is_letters" = some (some (.ref f7)))
    (l7 : K.lookup f7 = some ⟨oc7, od7, .func (PySem.W.fnOf "_is_letters" "_is_letters" (defArgs s__is_letters) (defBody s__is_letters) (defScope s__is_letters) .none kV7 dc7 pm7 an7 cd7 ct7), sl7⟩)
    (c7 : PySem.W.codeIn K cd7 "_is_letters" = true) (k7 : PySem.W.keepIn K (.ref f7) = true)
    (a8 : PySem.W.nsIn K mainGlobals "_digit_of" = some (some (.ref f8)))
    (l8 : K.lookup f8 = some ⟨oc8, od8, .func (PySem.W.fnOf "_digit_of" "_digit_of" (defArgs s__digit_of) (defBody s__digit_of) (defScope s__digit_of) .none kV8 dc8 pm8 an8 cd8 ct8), sl8⟩)
    (c8 : PySem.W.codeIn K cd8 "_digit_of" = true) (k8 : PySem.W.keepIn K (.ref f8) = true)
    (a9 : PySem.W.nsIn K mainGlobals "_named_rights" = some (some (.ref f9)))
    (l9 : K.lookup f9 = some ⟨oc9, od9, .func (PySem.W.fnOf "_named_rights" "_named_rights" (defArgs s__named_rights) (defBody s__named_rights) (defScope s__named_rights) .none kV9 dc9 pm9 an9 cd9 ct9), sl9⟩)
    (c9 : PySem.W.codeIn K cd9 "_named_rights" = true) (k9 : PySem.W.keepIn K (.ref f9) = true)
    (a10 : PySem.W.nsIn K mainGlobals "_keys_in_order" = some (some (.ref f10)))
    (l10 : K.lookup f10 = some ⟨oc10, od10, .func (PySem.W.fnOf "_keys_in_order" "_keys_in_order" (defArgs s__keys_in_order) (defBody s__keys_in_order) (defScope s__keys_in_order) .none kV10 dc10 pm10 an10 cd10 ct10), sl10⟩)
    (c10 : PySem.W.codeIn K cd10 "_keys_in_order" = true) (k10 : PySem.W.keepIn K (.ref f10) = true)
    (a11 : PySem.W.nsIn K mainGlobals "is_owner" = some (some (.ref f11)))
    (l11 : K.lookup f11 = some ⟨oc11, od11, .func (PySem.W.fnOf "is_owner" "is_owner" (defArgs s_is_owner) (defBody s_is_owner) (defScope s_is_owner) .none kV11 dc11 pm11 an11 cd11 ct11), sl11⟩)
    (c11 : PySem.W.codeIn K cd11 "is_owner" = true) (k11 : PySem.W.keepIn K (.ref f11) = true)
    (a12 : PySem.W.nsIn K mainGlobals "is_owner_group" = some (some (.ref f12)))
    (l12 : K.lookup f12 = some ⟨oc12, od12, .func (PySem.W.fnOf "is_owner_group" "is_owner_group" (defArgs s_is_owner_group) (defBody s_is_owner_group) (defScope s_is_owner_group) .none kV12 dc12 pm12 an12 cd12 ct12), sl12⟩)
    (c12 : PySem.W.codeIn K cd12 "is_owner_group" = true) (k12 : PySem.W.keepIn K (.ref f12) = true)
    (a13 : PySem.W.nsIn K mainGlobals "_are_users" = some (some (.ref f13)))
    (l13 : K.lookup f13 = some ⟨oc13, od13, .func (PySem.W.fnOf "_are_users" "_are_users" (defArgs s__are_users) (defBody s__are_users) (defScope s__are_users) .none kV13 dc13 pm13 an13 cd13 ct13), sl13⟩)
    (c13 : PySem.W.codeIn K cd13 "_are_users" = true) (k13 : PySem.W.keepIn K (.ref f13) = true)
    (a14 : PySem.W.nsIn K mainGlobals "_are_groups" = some (some (.ref f14)))
    (l14 : K.lookup f14 = some ⟨oc14, od14, .func (PySem.W.fnOf "_are_groups" "_are_groups" (defArgs s__are_groups) (defBody s__are_groups) (defScope s__are_groups) .none kV14 dc14 pm14 an14 cd14 ct14), sl14⟩)
    (c14 : PySem.W.codeIn K cd14 "_are_groups" = true) (k14 : PySem.W.keepIn K (.ref f14) = true)
    (a15 : PySem.W.nsIn K mainGlobals "granting_digits" = some (some (.ref f15)))
    (l15 : K.lookup f15 = some ⟨oc15, od15, .func (PySem.W.fnOf "granting_digits" "granting_digits" (defArgs s_granting_digits) (defBody s_granting_digits) (defScope s_granting_digits) .none kV15 dc15 pm15 an15 cd15 ct15), sl15⟩)
    (c15 : PySem.W.codeIn K cd15 "granting_digits" = true) (k15 : PySem.W.keepIn K (.ref f15) = true)
    (a16 : PySem.W.nsIn K mainGlobals "_fitting" = some (some (.ref f16)))
    (l16 : K.lookup f16 = some ⟨oc16, od16, .func (PySem.W.fnOf "_fitting" "_fitting" (defArgs s__fitting) (defBody s__fitting) (defScope s__fitting) .none kV16 dc16 pm16 an16 cd16 ct16), sl16⟩)
    (c16 : PySem.W.codeIn K cd16 "_fitting" = true) (k16 : PySem.W.keepIn K (.ref f16) = true)
    (a17 : PySem.W.nsIn K mainGlobals "_law_cell" = some (some (.ref f17)))
    (l17 : K.lookup f17 = some ⟨oc17, od17, .func (PySem.W.fnOf "_law_cell" "_law_cell" (defArgs s_cell) (defBody s_cell) (defScope s_cell) .none kV17 dc17 pm17 an17 cd17 ct17), sl17⟩)
    (c17 : PySem.W.codeIn K cd17 "_law_cell" = true) (k17 : PySem.W.keepIn K (.ref f17) = true)
    (a18 : PySem.W.nsIn K mainGlobals "_law_bag" = some (some (.ref f18)))
    (l18 : K.lookup f18 = some ⟨oc18, od18, .func (PySem.W.fnOf "_law_bag" "_law_bag" (defArgs s_bag) (defBody s_bag) (defScope s_bag) .none kV18 dc18 pm18 an18 cd18 ct18), sl18⟩)
    (c18 : PySem.W.codeIn K cd18 "_law_bag" = true) (k18 : PySem.W.keepIn K (.ref f18) = true)
    (a19 : PySem.W.nsIn K mainGlobals "_law_take" = some (some (.ref f19)))
    (l19 : K.lookup f19 = some ⟨oc19, od19, .func (PySem.W.fnOf "_law_take" "_law_take" (defArgs s_take) (defBody s_take) (defScope s_take) .none kV19 dc19 pm19 an19 cd19 ct19), sl19⟩)
    (c19 : PySem.W.codeIn K cd19 "_law_take" = true) (k19 : PySem.W.keepIn K (.ref f19) = true)
    (a20 : PySem.W.nsIn K mainGlobals "_law_bad" = some (some (.ref f20)))
    (l20 : K.lookup f20 = some ⟨oc20, od20, .func (PySem.W.fnOf "_law_bad" "_law_bad" (defArgs s_bad) (defBody s_bad) (defScope s_bad) .none kV20 dc20 pm20 an20 cd20 ct20), sl20⟩)
    (c20 : PySem.W.codeIn K cd20 "_law_bad" = true) (k20 : PySem.W.keepIn K (.ref f20) = true)
    (a21 : PySem.W.nsIn K mainGlobals "_law_asked" = some (some (.ref f21)))
    (l21 : K.lookup f21 = some ⟨oc21, od21, .func (PySem.W.fnOf "_law_asked" "_law_asked" (defArgs s_asked) (defBody s_asked) (defScope s_asked) .none kV21 dc21 pm21 an21 cd21 ct21), sl21⟩)
    (c21 : PySem.W.codeIn K cd21 "_law_asked" = true) (k21 : PySem.W.keepIn K (.ref f21) = true)
    (a22 : PySem.W.nsIn K mainGlobals "_law_tried" = some (some (.ref f22)))
    (l22 : K.lookup f22 = some ⟨oc22, od22, .func (PySem.W.fnOf "_law_tried" "_law_tried" (defArgs s_tried) (defBody s_tried) (defScope s_tried) .none kV22 dc22 pm22 an22 cd22 ct22), sl22⟩)
    (c22 : PySem.W.codeIn K cd22 "_law_tried" = true) (k22 : PySem.W.keepIn K (.ref f22) = true)
    (a23 : PySem.W.nsIn K mainGlobals "_law_no_people" = some (some (.ref f23)))
    (l23 : K.lookup f23 = some ⟨oc23, od23, .func (PySem.W.fnOf "_law_no_people" "_law_no_people" (defArgs s_no_people) (defBody s_no_people) (defScope s_no_people) .none kV23 dc23 pm23 an23 cd23 ct23), sl23⟩)
    (c23 : PySem.W.codeIn K cd23 "_law_no_people" = true) (k23 : PySem.W.keepIn K (.ref f23) = true)
    (a24 : PySem.W.nsIn K mainGlobals "law" = some (some (.ref f24)))
    (l24 : K.lookup f24 = some ⟨oc24, od24, .func (PySem.W.fnOf "law" "law" (defArgs s_law) (defBody s_law) (defScope s_law) .none kV24 dc24 pm24 an24 cd24 ct24), sl24⟩)
    (c24 : PySem.W.codeIn K cd24 "law" = true) (k24 : PySem.W.keepIn K (.ref f24) = true)
    (a25 : PySem.W.findIn K (.ref O0) "__init__" = some (some (.ref f25)))
    (t25 : PySem.W.isFn K (.ref f25) = true)
    (l25 : K.lookup f25 = some ⟨oc25, od25, .func (PySem.W.fnOf "__init__" "Rights.__init__" (defArgs s_Rights___init__) (defBody s_Rights___init__) (defScope s_Rights___init__) (.ref DT25) kV25 dc25 pm25 an25 cd25 ct25), sl25⟩)
    (c25 : PySem.W.codeIn K cd25 "Rights.__init__" = true)
    (k25 : PySem.W.keepIn K (.ref f25) = true)
    (dl25 : K.lookup DT25 = some dto25)
    (dd25 : dto25.data = .seq dti25.toArray dtn25)
    (dv25 : Vals [.str ""] dti25)
    (a26 : PySem.W.findCls K (.ref O0) (.type "type") "of" = some (PySem.W.CFound.get (.builtin "classmethod.__get__") (.ref P26) .none (.ref O0)))
    (px26 : PySem.W.recIn K P26 "classmethod" = some (.ref f26 :: pr26))
    (pf26 : PySem.W.fnIn K f26 = true)
    (l26 : K.lookup f26 = some ⟨oc26, od26, .func (PySem.W.fnOf "of" "Rights.of" (defArgs s_Rights_of) (defBody s_Rights_of) (defScope s_Rights_of) .none kV26 dc26 pm26 an26 cd26 ct26), sl26⟩)
    (c26 : PySem.W.codeIn K cd26 "Rights.of" = true)
    (k26 : PySem.W.keepIn K (.ref f26) = true)
    (a27 : PySem.W.findCls K (.ref O0) (.type "type") "from_digit" = some (PySem.W.CFound.get (.builtin "classmethod.__get__") (.ref P27) .none (.ref O0)))
    (px27 : PySem.W.recIn K P27 "classmethod" = some (.ref f27 :: pr27))
    (pf27 : PySem.W.fnIn K f27 = true)
    (l27 : K.lookup f27 = some ⟨oc27, od27, .func (PySem.W.fnOf "from_digit" "Rights.from_digit" (defArgs s_Rights_from_digit) (defBody s_Rights_from_digit) (defScope s_Rights_from_digit) .none kV27 dc27 pm27 an27 cd27 ct27), sl27⟩)
    (c27 : PySem.W.codeIn K cd27 "Rights.from_digit" = true)
    (k27 : PySem.W.keepIn K (.ref f27) = true)
    (a28 : PySem.W.findIn K (.ref O0) "digit" = some (some (.ref P28)))
    (pg28 : PySem.W.specialIn K (.ref P28) "__get__" = some (some (.builtin "property.__get__")))
    (pt28 : PySem.W.takesIn K (.ref P28) = some true)
    (px28 : PySem.W.recIn K P28 "property" = some (.ref f28 :: pr28))
    (l28 : K.lookup f28 = some ⟨oc28, od28, .func (PySem.W.fnOf "digit" "Rights.digit" (defArgs s_Rights_digit) (defBody s_Rights_digit) (defScope s_Rights_digit) .none kV28 dc28 pm28 an28 cd28 ct28), sl28⟩)
    (c28 : PySem.W.codeIn K cd28 "Rights.digit" = true)
    (k28 : PySem.W.keepIn K (.ref f28) = true)
    (a31 : PySem.W.findIn K (.ref O0) "__or__" = some (some (.ref f31)))
    (t31 : PySem.W.isFn K (.ref f31) = true)
    (l31 : K.lookup f31 = some ⟨oc31, od31, .func (PySem.W.fnOf "__or__" "Rights.__or__" (defArgs s_Rights___or__) (defBody s_Rights___or__) (defScope s_Rights___or__) .none kV31 dc31 pm31 an31 cd31 ct31), sl31⟩)
    (c31 : PySem.W.codeIn K cd31 "Rights.__or__" = true)
    (k31 : PySem.W.keepIn K (.ref f31) = true)
    (a42 : PySem.W.findIn K (.ref O1) "__init__" = some (some (.ref f42)))
    (t42 : PySem.W.isFn K (.ref f42) = true)
    (l42 : K.lookup f42 = some ⟨oc42, od42, .func (PySem.W.fnOf "__init__" "AccessList.__init__" (defArgs s_AccessList___init__) (defBody s_AccessList___init__) (defScope s_AccessList___init__) .none (.ref D42) dc42 pm42 an42 cd42 ct42), sl42⟩)
    (c42 : PySem.W.codeIn K cd42 "AccessList.__init__" = true)
    (k42 : PySem.W.keepIn K (.ref f42) = true)
    (w42_0 : PySem.W.nsIn K D42 "users" = some (some .none))
    (w42_1 : PySem.W.nsIn K D42 "groups" = some (some .none))
    (w42_2 : PySem.W.nsIn K D42 "mask" = some (some .none))
    (a43 : PySem.W.findIn K (.ref O1) "_first_mask" = some (some (.ref f43)))
    (t43 : PySem.W.isFn K (.ref f43) = true)
    (l43 : K.lookup f43 = some ⟨oc43, od43, .func (PySem.W.fnOf "_first_mask" "AccessList._first_mask" (defArgs s_AccessList__first_mask) (defBody s_AccessList__first_mask) (defScope s_AccessList__first_mask) .none kV43 dc43 pm43 an43 cd43 ct43), sl43⟩)
    (c43 : PySem.W.codeIn K cd43 "AccessList._first_mask" = true)
    (k43 : PySem.W.keepIn K (.ref f43) = true)
    (a47 : PySem.W.findIn K (.ref O1) "owner" = some (some (.ref P47)))
    (pg47 : PySem.W.specialIn K (.ref P47) "__get__" = some (some (.builtin "property.__get__")))
    (pt47 : PySem.W.takesIn K (.ref P47) = some true)
    (px47 : PySem.W.recIn K P47 "property" = some (.ref f47 :: pr47))
    (l47 : K.lookup f47 = some ⟨oc47, od47, .func (PySem.W.fnOf "owner" "AccessList.owner" (defArgs s_AccessList_owner) (defBody s_AccessList_owner) (defScope s_AccessList_owner) .none kV47 dc47 pm47 an47 cd47 ct47), sl47⟩)
    (c47 : PySem.W.codeIn K cd47 "AccessList.owner" = true)
    (k47 : PySem.W.keepIn K (.ref f47) = true)
    (a48 : PySem.W.findIn K (.ref O1) "group" = some (some (.ref P48)))
    (pg48 : PySem.W.specialIn K (.ref P48) "__get__" = some (some (.builtin "property.__get__")))
    (pt48 : PySem.W.takesIn K (.ref P48) = some true)
    (px48 : PySem.W.recIn K P48 "property" = some (.ref f48 :: pr48))
    (l48 : K.lookup f48 = some ⟨oc48, od48, .func (PySem.W.fnOf "group" "AccessList.group" (defArgs s_AccessList_group) (defBody s_AccessList_group) (defScope s_AccessList_group) .none kV48 dc48 pm48 an48 cd48 ct48), sl48⟩)
    (c48 : PySem.W.codeIn K cd48 "AccessList.group" = true)
    (k48 : PySem.W.keepIn K (.ref f48) = true)
    (a49 : PySem.W.findIn K (.ref O1) "other" = some (some (.ref P49)))
    (pg49 : PySem.W.specialIn K (.ref P49) "__get__" = some (some (.builtin "property.__get__")))
    (pt49 : PySem.W.takesIn K (.ref P49) = some true)
    (px49 : PySem.W.recIn K P49 "property" = some (.ref f49 :: pr49))
    (l49 : K.lookup f49 = some ⟨oc49, od49, .func (PySem.W.fnOf "other" "AccessList.other" (defArgs s_AccessList_other) (defBody s_AccessList_other) (defScope s_AccessList_other) .none kV49 dc49 pm49 an49 cd49 ct49), sl49⟩)
    (c49 : PySem.W.codeIn K cd49 "AccessList.other" = true)
    (k49 : PySem.W.keepIn K (.ref f49) = true)
    (a50 : PySem.W.findIn K (.ref O1) "mask" = some (some (.ref P50)))
    (pg50 : PySem.W.specialIn K (.ref P50) "__get__" = some (some (.builtin "property.__get__")))
    (pt50 : PySem.W.takesIn K (.ref P50) = some true)
    (px50 : PySem.W.recIn K P50 "property" = some (.ref f50 :: pr50))
    (l50 : K.lookup f50 = some ⟨oc50, od50, .func (PySem.W.fnOf "mask" "AccessList.mask" (defArgs s_AccessList_mask) (defBody s_AccessList_mask) (defScope s_AccessList_mask) .none kV50 dc50 pm50 an50 cd50 ct50), sl50⟩)
    (c50 : PySem.W.codeIn K cd50 "AccessList.mask" = true)
    (k50 : PySem.W.keepIn K (.ref f50) = true)
    (a53 : PySem.W.findIn K (.ref O1) "users" = some (some (.ref f53)))
    (t53 : PySem.W.isFn K (.ref f53) = true)
    (l53 : K.lookup f53 = some ⟨oc53, od53, .func (PySem.W.fnOf "users" "AccessList.users" (defArgs s_AccessList_users) (defBody s_AccessList_users) (defScope s_AccessList_users) .none kV53 dc53 pm53 an53 cd53 ct53), sl53⟩)
    (c53 : PySem.W.codeIn K cd53 "AccessList.users" = true)
    (k53 : PySem.W.keepIn K (.ref f53) = true)
    (a54 : PySem.W.findIn K (.ref O1) "groups" = some (some (.ref f54)))
    (t54 : PySem.W.isFn K (.ref f54) = true)
    (l54 : K.lookup f54 = some ⟨oc54, od54, .func (PySem.W.fnOf "groups" "AccessList.groups" (defArgs s_AccessList_groups) (defBody s_AccessList_groups) (defScope s_AccessList_groups) .none kV54 dc54 pm54 an54 cd54 ct54), sl54⟩)
    (c54 : PySem.W.codeIn K cd54 "AccessList.groups" = true)
    (k54 : PySem.W.keepIn K (.ref f54) = true)
    (a66 : PySem.W.findIn K (.ref O2) "__init__" = some (some (.ref f66)))
    (t66 : PySem.W.isFn K (.ref f66) = true)
    (l66 : K.lookup f66 = some ⟨oc66, od66, .func (PySem.W.fnOf "__init__" "People.__init__" (defArgs s_People___init__) (defBody s_People___init__) (defScope s_People___init__) .none kV66 dc66 pm66 an66 cd66 ct66), sl66⟩)
    (c66 : PySem.W.codeIn K cd66 "People.__init__" = true)
    (k66 : PySem.W.keepIn K (.ref f66) = true)
    (a68 : PySem.W.findIn K (.ref O2) "groups" = some (some (.ref f68)))
    (t68 : PySem.W.isFn K (.ref f68) = true)
    (l68 : K.lookup f68 = some ⟨oc68, od68, .func (PySem.W.fnOf "groups" "People.groups" (defArgs s_People_groups) (defBody s_People_groups) (defScope s_People_groups) .none kV68 dc68 pm68 an68 cd68 ct68), sl68⟩)
    (c68 : PySem.W.codeIn K cd68 "People.groups" = true)
    (k68 : PySem.W.keepIn K (.ref f68) = true)
    (a69 : PySem.W.findIn K (.ref O2) "groups_of" = some (some (.ref f69)))
    (t69 : PySem.W.isFn K (.ref f69) = true)
    (l69 : K.lookup f69 = some ⟨oc69, od69, .func (PySem.W.fnOf "groups_of" "People.groups_of" (defArgs s_People_groups_of) (defBody s_People_groups_of) (defScope s_People_groups_of) .none kV69 dc69 pm69 an69 cd69 ct69), sl69⟩)
    (c69 : PySem.W.codeIn K cd69 "People.groups_of" = true)
    (k69 : PySem.W.keepIn K (.ref f69) = true)
    (a72 : PySem.W.findIn K (.ref O2) "__contains__" = some (some (.ref f72)))
    (t72 : PySem.W.isFn K (.ref f72) = true)
    (l72 : K.lookup f72 = some ⟨oc72, od72, .func (PySem.W.fnOf "__contains__" "People.__contains__" (defArgs s_People___contains__) (defBody s_People___contains__) (defScope s_People___contains__) .none kV72 dc72 pm72 an72 cd72 ct72), sl72⟩)
    (c72 : PySem.W.codeIn K cd72 "People.__contains__" = true)
    (k72 : PySem.W.keepIn K (.ref f72) = true)
    (a76 : PySem.W.findIn K (.ref O3) "__init__" = some (some (.ref f76)))
    (t76 : PySem.W.isFn K (.ref f76) = true)
    (l76 : K.lookup f76 = some ⟨oc76, od76, .func (PySem.W.fnOf "__init__" "Judge.__init__" (defArgs s_Judge___init__) (defBody s_Judge___init__) (defScope s_Judge___init__) .none kV76 dc76 pm76 an76 cd76 ct76), sl76⟩)
    (c76 : PySem.W.codeIn K cd76 "Judge.__init__" = true)
    (k76 : PySem.W.keepIn K (.ref f76) = true)
    (a77 : PySem.W.findIn K (.ref O3) "__call__" = some (some (.ref f77)))
    (t77 : PySem.W.isFn K (.ref f77) = true)
    (l77 : K.lookup f77 = some ⟨oc77, od77, .func (PySem.W.fnOf "__call__" "Judge.__call__" (defArgs s_Judge___call__) (defBody s_Judge___call__) (defScope s_Judge___call__) .none kV77 dc77 pm77 an77 cd77 ct77), sl77⟩)
    (c77 : PySem.W.codeIn K cd77 "Judge.__call__" = true)
    (k77 : PySem.W.keepIn K (.ref f77) = true)
    (a78 : PySem.W.findIn K (.ref O3) "deciding" = some (some (.ref f78)))
    (t78 : PySem.W.isFn K (.ref f78) = true)
    (l78 : K.lookup f78 = some ⟨oc78, od78, .func (PySem.W.fnOf "deciding" "Judge.deciding" (defArgs s_Judge_deciding) (defBody s_Judge_deciding) (defScope s_Judge_deciding) .none kV78 dc78 pm78 an78 cd78 ct78), sl78⟩)
    (c78 : PySem.W.codeIn K cd78 "Judge.deciding" = true)
    (k78 : PySem.W.keepIn K (.ref f78) = true)
    (a79 : PySem.W.findIn K (.ref O3) "letters_of" = some (some (.ref f79)))
    (t79 : PySem.W.isFn K (.ref f79) = true)
    (l79 : K.lookup f79 = some ⟨oc79, od79, .func (PySem.W.fnOf "letters_of" "Judge.letters_of" (defArgs s_Judge_letters_of) (defBody s_Judge_letters_of) (defScope s_Judge_letters_of) .none kV79 dc79 pm79 an79 cd79 ct79), sl79⟩)
    (c79 : PySem.W.codeIn K cd79 "Judge.letters_of" = true)
    (k79 : PySem.W.keepIn K (.ref f79) = true)
    (a80 : PySem.W.findIn K (.ref O3) "_check" = some (some (.ref f80)))
    (t80 : PySem.W.isFn K (.ref f80) = true)
    (l80 : K.lookup f80 = some ⟨oc80, od80, .func (PySem.W.fnOf "_check" "Judge._check" (defArgs s_Judge__check) (defBody s_Judge__check) (defScope s_Judge__check) .none kV80 dc80 pm80 an80 cd80 ct80), sl80⟩)
    (c80 : PySem.W.codeIn K cd80 "Judge._check" = true)
    (k80 : PySem.W.keepIn K (.ref f80) = true)
    (ka0 : PySem.W.nsIn K mainGlobals "RightsError" = some (some (.ref K0)))
    (ka1 : PySem.W.nsIn K mainGlobals "MissingError" = some (some (.ref K1)))
    (ka2 : PySem.W.nsIn K mainGlobals "InvalidList" = some (some (.ref K2)))
    (ka3 : PySem.W.nsIn K mainGlobals "InvalidRights" = some (some (.ref K3)))
    (ka4 : PySem.W.nsIn K mainGlobals "InvalidPeople" = some (some (.ref K4)))
    (ka5 : PySem.W.nsIn K mainGlobals "UnknownUser" = some (some (.ref K5)))
    (ka6 : PySem.W.nsIn K mainGlobals "UnknownGroup" = some (some (.ref K6)))
    (ic0 : PySem.W.isClsIn K K0 = true) (yt0 : PySem.W.typeIn K (.ref K0) = some (.type "type"))
    (ic1 : PySem.W.isClsIn K K1 = true) (yt1 : PySem.W.typeIn K (.ref K1) = some (.type "type"))
    (xl2 : K.lookup K2 = some (excClassObj nm2 qu2 K2 N2 bs2 [.ref K0, .type "ValueError", .type "Exception", .type "BaseException", .type "object"] true sn2 sub2 ab2 col2 dd2 m02 m12 m22 m32 m52 "ValueError.__new__"))
    (sa2 : PySem.W.findIn K (.ref K2) "__setattr__" = some (some (.builtin "object.__setattr__")))
    (ga2 : PySem.W.findIn K (.ref K2) "__getattribute__" = some (some (.builtin "BaseException.__getattribute__")))
    (gg2 : PySem.W.findIn K (.ref K2) "__getattr__" = some none)
    (nb2 : PySem.W.findIn K (.ref K2) "value" = some none)
    (in2 : PySem.W.findIn K (.ref K2) "__init__" = some (some (.ref J2)))
    (ti2 : PySem.W.typeIn K (.ref J2) = some (.type "function"))
    (li2 : K.lookup J2 = some ⟨ioc2, iod2, .func (PySem.W.fnOf "__init__" "InvalidList.__init__" (PySem.ExV.iA pa2 pb2) (PySem.ExV.iB pc2 pd2 pe2 pf2) PySem.ExV.iS .none .none idc2 ipm2 ian2 icd2 ict2), isl2⟩)
    (ci2 : PySem.W.codeIn K icd2 "InvalidList.__init__" = true)
    (kc2 : PySem.W.keepIn K (.ref K2) = true)
    (eb2 : PySem.W.subIn K (.ref K2) (.type "BaseException") = some true)
    (yt2 : PySem.W.typeIn K (.ref K2) = some (.type "type"))
    (hd2 : PySem.W.hasDictIn K K2 = true)
    (ic2 : PySem.W.isClsIn K K2 = true)
    (sc2 : PySem.W.subIn K (.ref K2) (.ref K2) = some true)
    (ca2 : PySem.W.findIn K (.ref K2) "__class__" = some (some (.builtin "object.__class__")))
    (cn2 : PySem.W.specialIn K (.builtin "object.__class__") "__get__" = some (some (.builtin "getset_descriptor.__get__")))
    (xt2 : PySem.W.takesIn K (.builtin "object.__class__") = some true)
    (cm2 : PySem.W.mroIn K K2 (.type "object") = some true)
    (xl3 : K.lookup K3 = some (excClassObj nm3 qu3 K3 N3 bs3 [.ref K0, .type "ValueError", .type "Exception", .type "BaseException", .type "object"] true sn3 sub3 ab3 col3 dd3 m03 m13 m23 m33 m53 "ValueError.__new__"))
    (sa3 : PySem.W.findIn K (.ref K3) "__setattr__" = some (some (.builtin "object.__setattr__")))
    (ga3 : PySem.W.findIn K (.ref K3) "__getattribute__" = some (some (.builtin "BaseException.__getattribute__")))
    (gg3 : PySem.W.findIn K (.ref K3) "__getattr__" = some none)
    (nb3 : PySem.W.findIn K (.ref K3) "value" = some none)
    (in3 : PySem.W.findIn K (.ref K3) "__init__" = some (some (.ref J3)))
    (ti3 : PySem.W.typeIn K (.ref J3) = some (.type "function"))
    (li3 : K.lookup J3 = some ⟨ioc3, iod3, .func (PySem.W.fnOf "__init__" "InvalidRights.__init__" (PySem.ExV.iA pa3 pb3) (PySem.ExV.iB pc3 pd3 pe3 pf3) PySem.ExV.iS .none .none idc3 ipm3 ian3 icd3 ict3), isl3⟩)
    (ci3 : PySem.W.codeIn K icd3 "InvalidRights.__init__" = true)
    (kc3 : PySem.W.keepIn K (.ref K3) = true)
    (eb3 : PySem.W.subIn K (.ref K3) (.type "BaseException") = some true)
    (yt3 : PySem.W.typeIn K (.ref K3) = some (.type "type"))
    (hd3 : PySem.W.hasDictIn K K3 = true)
    (ic3 : PySem.W.isClsIn K K3 = true)
    (sc3 : PySem.W.subIn K (.ref K3) (.ref K3) = some true)
    (ca3 : PySem.W.findIn K (.ref K3) "__class__" = some (some (.builtin "object.__class__")))
    (cn3 : PySem.W.specialIn K (.builtin "object.__class__") "__get__" = some (some (.builtin "getset_descriptor.__get__")))
    (xt3 : PySem.W.takesIn K (.builtin "object.__class__") = some true)
    (cm3 : PySem.W.mroIn K K3 (.type "object") = some true)
    (xl4 : K.lookup K4 = some (excClassObj nm4 qu4 K4 N4 bs4 [.ref K0, .type "ValueError", .type "Exception", .type "BaseException", .type "object"] true sn4 sub4 ab4 col4 dd4 m04 m14 m24 m34 m54 "ValueError.__new__"))
    (sa4 : PySem.W.findIn K (.ref K4) "__setattr__" = some (some (.builtin "object.__setattr__")))
    (ga4 : PySem.W.findIn K (.ref K4) "__getattribute__" = some (some (.builtin "BaseException.__getattribute__")))
    (gg4 : PySem.W.findIn K (.ref K4) "__getattr__" = some none)
    (nb4 : PySem.W.findIn K (.ref K4) "value" = some none)
    (in4 : PySem.W.findIn K (.ref K4) "__init__" = some (some (.ref J4)))
    (ti4 : PySem.W.typeIn K (.ref J4) = some (.type "function"))
    (li4 : K.lookup J4 = some ⟨ioc4, iod4, .func (PySem.W.fnOf "__init__" "InvalidPeople.__init__" (PySem.ExV.iA pa4 pb4) (PySem.ExV.iB pc4 pd4 pe4 pf4) PySem.ExV.iS .none .none idc4 ipm4 ian4 icd4 ict4), isl4⟩)
    (ci4 : PySem.W.codeIn K icd4 "InvalidPeople.__init__" = true)
    (kc4 : PySem.W.keepIn K (.ref K4) = true)
    (eb4 : PySem.W.subIn K (.ref K4) (.type "BaseException") = some true)
    (yt4 : PySem.W.typeIn K (.ref K4) = some (.type "type"))
    (hd4 : PySem.W.hasDictIn K K4 = true)
    (ic4 : PySem.W.isClsIn K K4 = true)
    (sc4 : PySem.W.subIn K (.ref K4) (.ref K4) = some true)
    (ca4 : PySem.W.findIn K (.ref K4) "__class__" = some (some (.builtin "object.__class__")))
    (cn4 : PySem.W.specialIn K (.builtin "object.__class__") "__get__" = some (some (.builtin "getset_descriptor.__get__")))
    (xt4 : PySem.W.takesIn K (.builtin "object.__class__") = some true)
    (cm4 : PySem.W.mroIn K K4 (.type "object") = some true)
    (xl5 : K.lookup K5 = some (excClassObj nm5 qu5 K5 N5 bs5 [.ref K1, .type "KeyError", .type "LookupError", .type "Exception", .type "BaseException", .type "object"] true sn5 sub5 ab5 col5 dd5 m05 m15 m25 m35 m55 "LookupError.__new__"))
    (sa5 : PySem.W.findIn K (.ref K5) "__setattr__" = some (some (.builtin "object.__setattr__")))
    (ga5 : PySem.W.findIn K (.ref K5) "__getattribute__" = some (some (.builtin "BaseException.__getattribute__")))
    (gg5 : PySem.W.findIn K (.ref K5) "__getattr__" = some none)
    (nb5 : PySem.W.findIn K (.ref K5) "name" = some none)
    (in5 : PySem.W.findIn K (.ref K5) "__init__" = some (some (.ref J5)))
    (ti5 : PySem.W.typeIn K (.ref J5) = some (.type "function"))
    (li5 : K.lookup J5 = some ⟨ioc5, iod5, .func (PySem.W.fnOf "__init__" "UnknownUser.__init__" (PySem.ExN.iA pa5 pb5) (PySem.ExN.iB pc5 pd5 pe5 pf5) PySem.ExN.iS .none .none idc5 ipm5 ian5 icd5 ict5), isl5⟩)
    (ci5 : PySem.W.codeIn K icd5 "UnknownUser.__init__" = true)
    (kc5 : PySem.W.keepIn K (.ref K5) = true)
    (eb5 : PySem.W.subIn K (.ref K5) (.type "BaseException") = some true)
    (yt5 : PySem.W.typeIn K (.ref K5) = some (.type "type"))
    (hd5 : PySem.W.hasDictIn K K5 = true)
    (ic5 : PySem.W.isClsIn K K5 = true)
    (sc5 : PySem.W.subIn K (.ref K5) (.ref K5) = some true)
    (ca5 : PySem.W.findIn K (.ref K5) "__class__" = some (some (.builtin "object.__class__")))
    (cn5 : PySem.W.specialIn K (.builtin "object.__class__") "__get__" = some (some (.builtin "getset_descriptor.__get__")))
    (xt5 : PySem.W.takesIn K (.builtin "object.__class__") = some true)
    (cm5 : PySem.W.mroIn K K5 (.type "object") = some true)
    (xl6 : K.lookup K6 = some (excClassObj nm6 qu6 K6 N6 bs6 [.ref K1, .type "KeyError", .type "LookupError", .type "Exception", .type "BaseException", .type "object"] true sn6 sub6 ab6 col6 dd6 m06 m16 m26 m36 m56 "LookupError.__new__"))
    (sa6 : PySem.W.findIn K (.ref K6) "__setattr__" = some (some (.builtin "object.__setattr__")))
    (ga6 : PySem.W.findIn K (.ref K6) "__getattribute__" = some (some (.builtin "BaseException.__getattribute__")))
    (gg6 : PySem.W.findIn K (.ref K6) "__getattr__" = some none)
    (nb6 : PySem.W.findIn K (.ref K6) "name" = some none)
    (in6 : PySem.W.findIn K (.ref K6) "__init__" = some (some (.ref J6)))
    (ti6 : PySem.W.typeIn K (.ref J6) = some (.type "function"))
    (li6 : K.lookup J6 = some ⟨ioc6, iod6, .func (PySem.W.fnOf "__init__" "UnknownGroup.__init__" (PySem.ExN.iA pa6 pb6) (PySem.ExN.iB pc6 pd6 pe6 pf6) PySem.ExN.iS .none .none idc6 ipm6 ian6 icd6 ict6), isl6⟩)
    (ci6 : PySem.W.codeIn K icd6 "UnknownGroup.__init__" = true)
    (kc6 : PySem.W.keepIn K (.ref K6) = true)
    (eb6 : PySem.W.subIn K (.ref K6) (.type "BaseException") = some true)
    (yt6 : PySem.W.typeIn K (.ref K6) = some (.type "type"))
    (hd6 : PySem.W.hasDictIn K K6 = true)
    (ic6 : PySem.W.isClsIn K K6 = true)
    (sc6 : PySem.W.subIn K (.ref K6) (.ref K6) = some true)
    (ca6 : PySem.W.findIn K (.ref K6) "__class__" = some (some (.builtin "object.__class__")))
    (cn6 : PySem.W.specialIn K (.builtin "object.__class__") "__get__" = some (some (.builtin "getset_descriptor.__get__")))
    (xt6 : PySem.W.takesIn K (.builtin "object.__class__") = some true)
    (cm6 : PySem.W.mroIn K K6 (.type "object") = some true)
    (kit_UnknownUser_MissingError : PySem.W.subIn K (.ref K5) (.ref K1) = some true)
    (kit_UnknownUser_UnknownGroup : PySem.W.subIn K (.ref K5) (.ref K6) = some false)
    (kit_UnknownGroup_MissingError : PySem.W.subIn K (.ref K6) (.ref K1) = some true)
    (kit_UnknownGroup_RightsError : PySem.W.subIn K (.ref K6) (.ref K0) = some false)
    (kit_InvalidList_RightsError : PySem.W.subIn K (.ref K2) (.ref K0) = some true)
    (kit_InvalidList_InvalidRights : PySem.W.subIn K (.ref K2) (.ref K3) = some false)
    (kit_InvalidRights_RightsError : PySem.W.subIn K (.ref K3) (.ref K0) = some true)
    (kit_InvalidRights_MissingError : PySem.W.subIn K (.ref K3) (.ref K1) = some false)
    (exm_UnknownGroup_UnknownUser : PySem.W.subIn K (.ref K6) (.ref K5) = some false)
    (exm_InvalidList_UnknownUser : PySem.W.subIn K (.ref K2) (.ref K5) = some false)
    (exm_InvalidList_UnknownGroup : PySem.W.subIn K (.ref K2) (.ref K6) = some false)
    (exm_InvalidRights_UnknownUser : PySem.W.subIn K (.ref K3) (.ref K5) = some false)
    (exm_InvalidRights_UnknownGroup : PySem.W.subIn K (.ref K3) (.ref K6) = some false)
    (exm_InvalidRights_InvalidList : PySem.W.subIn K (.ref K3) (.ref K2) = some false)
    (q0 : PySem.W.nsIn K mainGlobals "LONGEST_NAME" = some (some (.int 8 tc0)))
    (q1 : PySem.W.nsIn K mainGlobals "LETTERS" = some (some (.str "rwx" tc1)))
    (q2 : PySem.W.nsIn K mainGlobals "ALL_DIGIT" = some (some (.int 7 tc2)))
    (q3 : PySem.W.nsIn K mainGlobals "DIGITS" = some (some (.ref KD3)))
    (kl3 : K.lookup KD3 = some ⟨.type "dict", none, .dict kes3 ken3, #[]⟩)
    (ky3 : PySem.W.KeysLit w.params kes3.toList)
    (ks3 : (KD3 == sysModules) = false)
    (kq3 : Vals [.str "", .str "x", .str "w", .str "wx", .str "xw", .str "r", .str "rx", .str "xr", .str "rw", .str "wr", .str "rwx", .str "rxw", .str "wrx", .str "wxr", .str "xrw", .str "xwr"] (kes3.toList.map (·.key)))
    (kv3_0 : PySem.W.nsIn K KD3 "" = some (some (.int 0 kt3_0)))
    (kv3_1 : PySem.W.nsIn K KD3 "x" = some (some (.int 1 kt3_1)))
    (kv3_2 : PySem.W.nsIn K KD3 "w" = some (some (.int 2 kt3_2)))
    (kv3_3 : PySem.W.nsIn K KD3 "wx" = some (some (.int 3 kt3_3)))
    (kv3_4 : PySem.W.nsIn K KD3 "xw" = some (some (.int 3 kt3_4)))
    (kv3_5 : PySem.W.nsIn K KD3 "r" = some (some (.int 4 kt3_5)))
    (kv3_6 : PySem.W.nsIn K KD3 "rx" = some (some (.int 5 kt3_6)))
    (kv3_7 : PySem.W.nsIn K KD3 "xr" = some (some (.int 5 kt3_7)))
    (kv3_8 : PySem.W.nsIn K KD3 "rw" = some (some (.int 6 kt3_8)))
    (kv3_9 : PySem.W.nsIn K KD3 "wr" = some (some (.int 6 kt3_9)))
    (kv3_10 : PySem.W.nsIn K KD3 "rwx" = some (some (.int 7 kt3_10)))
    (kv3_11 : PySem.W.nsIn K KD3 "rxw" = some (some (.int 7 kt3_11)))
    (kv3_12 : PySem.W.nsIn K KD3 "wrx" = some (some (.int 7 kt3_12)))
    (kv3_13 : PySem.W.nsIn K KD3 "wxr" = some (some (.int 7 kt3_13)))
    (kv3_14 : PySem.W.nsIn K KD3 "xrw" = some (some (.int 7 kt3_14)))
    (kv3_15 : PySem.W.nsIn K KD3 "xwr" = some (some (.int 7 kt3_15)))
    (q4 : PySem.W.nsIn K mainGlobals "WORDS" = some (some (.ref KD4)))
    (kl4 : K.lookup KD4 = some kto4)
    (ku4 : kto4.cls = .type "tuple")
    (kd4 : kto4.data = .seq kti4 ktn4)
    (kz4 : kti4.size ≤ sizeLine)
    (kv4 : Vals [.str "", .str "x", .str "w", .str "wx", .str "r", .str "rx", .str "rw", .str "rwx"] kti4.toList)
    (q5 : PySem.W.nsIn K mainGlobals "MOST_NAMED" = some (some (.int 6 tc5)))
    (q6 : PySem.W.nsIn K mainGlobals "KIND_SIGNS" = some (some (.ref KD6)))
    (kl6 : K.lookup KD6 = some ⟨.type "dict", none, .dict kes6 ken6, #[]⟩)
    (ky6 : PySem.W.KeysLit w.params kes6.toList)
    (ks6 : (KD6 == sysModules) = false)
    (kq6 : Vals [.str "owner", .str "user", .str "group", .str "named", .str "mask", .str "other"] (kes6.toList.map (·.key)))
    (kv6_0 : PySem.W.nsIn K KD6 "owner" = some (some (.str "u" kt6_0)))
    (kv6_1 : PySem.W.nsIn K KD6 "user" = some (some (.str "u" kt6_1)))
    (kv6_2 : PySem.W.nsIn K KD6 "group" = some (some (.str "g" kt6_2)))
    (kv6_3 : PySem.W.nsIn K KD6 "named" = some (some (.str "g" kt6_3)))
    (kv6_4 : PySem.W.nsIn K KD6 "mask" = some (some (.str "m" kt6_4)))
    (kv6_5 : PySem.W.nsIn K KD6 "other" = some (some (.str "o" kt6_5)))
    (q7 : PySem.W.nsIn K mainGlobals "MOST_USERS" = some (some (.int 6 tc7)))
    (q8 : PySem.W.nsIn K mainGlobals "MOST_GROUPS" = some (some (.int 6 tc8)))
    (z0 : PySem.W.nsIn K mainGlobals "all" = some none)
    (z1 : PySem.W.nsIn K mainGlobals "any" = some none)
    (z2 : PySem.W.nsIn K mainGlobals "bool" = some none)
    (z3 : PySem.W.nsIn K mainGlobals "dict" = some none)
    (z4 : PySem.W.nsIn K mainGlobals "int" = some none)
    (z5 : PySem.W.nsIn K mainGlobals "isinstance" = some none)
    (z6 : PySem.W.nsIn K mainGlobals "len" = some none)
    (z7 : PySem.W.nsIn K mainGlobals "list" = some none)
    (z8 : PySem.W.nsIn K mainGlobals "max" = some none)
    (z9 : PySem.W.nsIn K mainGlobals "min" = some none)
    (z10 : PySem.W.nsIn K mainGlobals "range" = some none)
    (z11 : PySem.W.nsIn K mainGlobals "repr" = some none)
    (z12 : PySem.W.nsIn K mainGlobals "set" = some none)
    (z13 : PySem.W.nsIn K mainGlobals "sorted" = some none)
    (z14 : PySem.W.nsIn K mainGlobals "str" = some none)
    (z15 : PySem.W.nsIn K mainGlobals "tuple" = some none) :
    ∀ base : Heap, K.In base → base.Ns mainGlobals mg → FnG P w K mg base CX0 12 fa (spLaw K) := by
  have e := hfa.symm.trans (PySem.W.mg_of X G a24)
  cases e
  let A : Ads := {
    C_Rights := O0
    C_AccessList := O1
    C_People := O2
    C_Judge := O3
    f__wall := f0
    d__wall := PySem.W.fnOf "_wall" "_wall" (defArgs s__wall) (defBody s__wall) (defScope s__wall) .none kV0 dc0 pm0 an0 cd0 ct0
    f_is_integer := f1
    d_is_integer := PySem.W.fnOf "is_integer" "is_integer" (defArgs s_is_integer) (defBody s_is_integer) (defScope s_is_integer) .none kV1 dc1 pm1 an1 cd1 ct1
    f_is_name := f2
    d_is_name := PySem.W.fnOf "is_name" "is_name" (defArgs s_is_name) (defBody s_is_name) (defScope s_is_name) .none kV2 dc2 pm2 an2 cd2 ct2
    f_is_user_name := f3
    d_is_user_name := PySem.W.fnOf "is_user_name" "is_user_name" (defArgs s_is_user_name) (defBody s_is_user_name) (defScope s_is_user_name) .none kV3 dc3 pm3 an3 cd3 ct3
    f_is_list := f4
    d_is_list := PySem.W.fnOf "is_list" "is_list" (defArgs s_is_list) (defBody s_is_list) (defScope s_is_list) .none kV4 dc4 pm4 an4 cd4 ct4
    f_as_rights := f5
    d_as_rights := PySem.W.fnOf "as_rights" "as_rights" (defArgs s_as_rights) (defBody s_as_rights) (defScope s_as_rights) .none kV5 dc5 pm5 an5 cd5 ct5
    f_as_digit := f6
    d_as_digit := PySem.W.fnOf "as_digit" "as_digit" (defArgs s_as_digit) (defBody s_as_digit) (defScope s_as_digit) .none kV6 dc6 pm6 an6 cd6 ct6
    f__is_letters := f7
    d__is_letters := PySem.W.fnOf "_is_letters" "_is_letters" (defArgs s__is_letters) (defBody s__is_letters) (defScope s__is_letters) .none kV7 dc7 pm7 an7 cd7 ct7
    f__digit_of := f8
    d__digit_of := PySem.W.fnOf "_digit_of" "_digit_of" (defArgs s__digit_of) (defBody s__digit_of) (defScope s__digit_of) .none kV8 dc8 pm8 an8 cd8 ct8
    f__named_rights := f9
    d__named_rights := PySem.W.fnOf "_named_rights" "_named_rights" (defArgs s__named_rights) (defBody s__named_rights) (defScope s__named_rights) .none kV9 dc9 pm9 an9 cd9 ct9
    f__keys_in_order := f10
    d__keys_in_order := PySem.W.fnOf "_keys_in_order" "_keys_in_order" (defArgs s__keys_in_order) (defBody s__keys_in_order) (defScope s__keys_in_order) .none kV10 dc10 pm10 an10 cd10 ct10
    f_is_owner := f11
    d_is_owner := PySem.W.fnOf "is_owner" "is_owner" (defArgs s_is_owner) (defBody s_is_owner) (defScope s_is_owner) .none kV11 dc11 pm11 an11 cd11 ct11
    f_is_owner_group := f12
    d_is_owner_group := PySem.W.fnOf "is_owner_group" "is_owner_group" (defArgs s_is_owner_group) (defBody s_is_owner_group) (defScope s_is_owner_group) .none kV12 dc12 pm12 an12 cd12 ct12
    f__are_users := f13
    d__are_users := PySem.W.fnOf "_are_users" "_are_users" (defArgs s__are_users) (defBody s__are_users) (defScope s__are_users) .none kV13 dc13 pm13 an13 cd13 ct13
    f__are_groups := f14
    d__are_groups := PySem.W.fnOf "_are_groups" "_are_groups" (defArgs s__are_groups) (defBody s__are_groups) (defScope s__are_groups) .none kV14 dc14 pm14 an14 cd14 ct14
    f_granting_digits := f15
    d_granting_digits := PySem.W.fnOf "granting_digits" "granting_digits" (defArgs s_granting_digits) (defBody s_granting_digits) (defScope s_granting_digits) .none kV15 dc15 pm15 an15 cd15 ct15
    f__fitting := f16
    d__fitting := PySem.W.fnOf "_fitting" "_fitting" (defArgs s__fitting) (defBody s__fitting) (defScope s__fitting) .none kV16 dc16 pm16 an16 cd16 ct16
    f_cell := f17
    d_cell := PySem.W.fnOf "_law_cell" "_law_cell" (defArgs s_cell) (defBody s_cell) (defScope s_cell) .none kV17 dc17 pm17 an17 cd17 ct17
    f_bag := f18
    d_bag := PySem.W.fnOf "_law_bag" "_law_bag" (defArgs s_bag) (defBody s_bag) (defScope s_bag) .none kV18 dc18 pm18 an18 cd18 ct18
    f_take := f19
    d_take := PySem.W.fnOf "_law_take" "_law_take" (defArgs s_take) (defBody s_take) (defScope s_take) .none kV19 dc19 pm19 an19 cd19 ct19
    f_bad := f20
    d_bad := PySem.W.fnOf "_law_bad" "_law_bad" (defArgs s_bad) (defBody s_bad) (defScope s_bad) .none kV20 dc20 pm20 an20 cd20 ct20
    f_asked := f21
    d_asked := PySem.W.fnOf "_law_asked" "_law_asked" (defArgs s_asked) (defBody s_asked) (defScope s_asked) .none kV21 dc21 pm21 an21 cd21 ct21
    f_tried := f22
    d_tried := PySem.W.fnOf "_law_tried" "_law_tried" (defArgs s_tried) (defBody s_tried) (defScope s_tried) .none kV22 dc22 pm22 an22 cd22 ct22
    f_no_people := f23
    d_no_people := PySem.W.fnOf "_law_no_people" "_law_no_people" (defArgs s_no_people) (defBody s_no_people) (defScope s_no_people) .none kV23 dc23 pm23 an23 cd23 ct23
    f_law := fa
    d_law := PySem.W.fnOf "law" "law" (defArgs s_law) (defBody s_law) (defScope s_law) .none kV24 dc24 pm24 an24 cd24 ct24
    f_Rights___init__ := f25
    d_Rights___init__ := PySem.W.fnOf "__init__" "Rights.__init__" (defArgs s_Rights___init__) (defBody s_Rights___init__) (defScope s_Rights___init__) (.ref DT25) kV25 dc25 pm25 an25 cd25 ct25
    f_Rights_of := f26
    d_Rights_of := PySem.W.fnOf "of" "Rights.of" (defArgs s_Rights_of) (defBody s_Rights_of) (defScope s_Rights_of) .none kV26 dc26 pm26 an26 cd26 ct26
    P_Rights_of := P26
    f_Rights_from_digit := f27
    d_Rights_from_digit := PySem.W.fnOf "from_digit" "Rights.from_digit" (defArgs s_Rights_from_digit) (defBody s_Rights_from_digit) (defScope s_Rights_from_digit) .none kV27 dc27 pm27 an27 cd27 ct27
    P_Rights_from_digit := P27
    f_Rights_digit := f28
    d_Rights_digit := PySem.W.fnOf "digit" "Rights.digit" (defArgs s_Rights_digit) (defBody s_Rights_digit) (defScope s_Rights_digit) .none kV28 dc28 pm28 an28 cd28 ct28
    P_Rights_digit := P28
    f_Rights___or__ := f31
    d_Rights___or__ := PySem.W.fnOf "__or__" "Rights.__or__" (defArgs s_Rights___or__) (defBody s_Rights___or__) (defScope s_Rights___or__) .none kV31 dc31 pm31 an31 cd31 ct31
    f_AccessList___init__ := f42
    d_AccessList___init__ := PySem.W.fnOf "__init__" "AccessList.__init__" (defArgs s_AccessList___init__) (defBody s_AccessList___init__) (defScope s_AccessList___init__) .none (.ref D42) dc42 pm42 an42 cd42 ct42
    f_AccessList__first_mask := f43
    d_AccessList__first_mask := PySem.W.fnOf "_first_mask" "AccessList._first_mask" (defArgs s_AccessList__first_mask) (defBody s_AccessList__first_mask) (defScope s_AccessList__first_mask) .none kV43 dc43 pm43 an43 cd43 ct43
    f_AccessList_owner := f47
    d_AccessList_owner := PySem.W.fnOf "owner" "AccessList.owner" (defArgs s_AccessList_owner) (defBody s_AccessList_owner) (defScope s_AccessList_owner) .none kV47 dc47 pm47 an47 cd47 ct47
    P_AccessList_owner := P47
    f_AccessList_group := f48
    d_AccessList_group := PySem.W.fnOf "group" "AccessList.group" (defArgs s_AccessList_group) (defBody s_AccessList_group) (defScope s_AccessList_group) .none kV48 dc48 pm48 an48 cd48 ct48
    P_AccessList_group := P48
    f_AccessList_other := f49
    d_AccessList_other := PySem.W.fnOf "other" "AccessList.other" (defArgs s_AccessList_other) (defBody s_AccessList_other) (defScope s_AccessList_other) .none kV49 dc49 pm49 an49 cd49 ct49
    P_AccessList_other := P49
    f_AccessList_mask := f50
    d_AccessList_mask := PySem.W.fnOf "mask" "AccessList.mask" (defArgs s_AccessList_mask) (defBody s_AccessList_mask) (defScope s_AccessList_mask) .none kV50 dc50 pm50 an50 cd50 ct50
    P_AccessList_mask := P50
    f_AccessList_users := f53
    d_AccessList_users := PySem.W.fnOf "users" "AccessList.users" (defArgs s_AccessList_users) (defBody s_AccessList_users) (defScope s_AccessList_users) .none kV53 dc53 pm53 an53 cd53 ct53
    f_AccessList_groups := f54
    d_AccessList_groups := PySem.W.fnOf "groups" "AccessList.groups" (defArgs s_AccessList_groups) (defBody s_AccessList_groups) (defScope s_AccessList_groups) .none kV54 dc54 pm54 an54 cd54 ct54
    f_People___init__ := f66
    d_People___init__ := PySem.W.fnOf "__init__" "People.__init__" (defArgs s_People___init__) (defBody s_People___init__) (defScope s_People___init__) .none kV66 dc66 pm66 an66 cd66 ct66
    f_People_groups := f68
    d_People_groups := PySem.W.fnOf "groups" "People.groups" (defArgs s_People_groups) (defBody s_People_groups) (defScope s_People_groups) .none kV68 dc68 pm68 an68 cd68 ct68
    f_People_groups_of := f69
    d_People_groups_of := PySem.W.fnOf "groups_of" "People.groups_of" (defArgs s_People_groups_of) (defBody s_People_groups_of) (defScope s_People_groups_of) .none kV69 dc69 pm69 an69 cd69 ct69
    f_People___contains__ := f72
    d_People___contains__ := PySem.W.fnOf "__contains__" "People.__contains__" (defArgs s_People___contains__) (defBody s_People___contains__) (defScope s_People___contains__) .none kV72 dc72 pm72 an72 cd72 ct72
    f_Judge___init__ := f76
    d_Judge___init__ := PySem.W.fnOf "__init__" "Judge.__init__" (defArgs s_Judge___init__) (defBody s_Judge___init__) (defScope s_Judge___init__) .none kV76 dc76 pm76 an76 cd76 ct76
    f_Judge___call__ := f77
    d_Judge___call__ := PySem.W.fnOf "__call__" "Judge.__call__" (defArgs s_Judge___call__) (defBody s_Judge___call__) (defScope s_Judge___call__) .none kV77 dc77 pm77 an77 cd77 ct77
    f_Judge_deciding := f78
    d_Judge_deciding := PySem.W.fnOf "deciding" "Judge.deciding" (defArgs s_Judge_deciding) (defBody s_Judge_deciding) (defScope s_Judge_deciding) .none kV78 dc78 pm78 an78 cd78 ct78
    f_Judge_letters_of := f79
    d_Judge_letters_of := PySem.W.fnOf "letters_of" "Judge.letters_of" (defArgs s_Judge_letters_of) (defBody s_Judge_letters_of) (defScope s_Judge_letters_of) .none kV79 dc79 pm79 an79 cd79 ct79
    f_Judge__check := f80
    d_Judge__check := PySem.W.fnOf "_check" "Judge._check" (defArgs s_Judge__check) (defBody s_Judge__check) (defScope s_Judge__check) .none kV80 dc80 pm80 an80 cd80 ct80
    C_RightsError := K0
    C_MissingError := K1
    C_InvalidList := K2
    C_InvalidRights := K3
    C_InvalidPeople := K4
    C_UnknownUser := K5
    C_UnknownGroup := K6
    I_InvalidList := J2
    I_InvalidRights := J3
    I_InvalidPeople := J4
    I_UnknownUser := J5
    I_UnknownGroup := J6
    K_DIGITS := KD3
    K_WORDS := KD4
    K_KIND_SIGNS := KD6 }
  have T : Txt w K mg A := {
    cr_Rights := ⟨ord0, org0⟩
    gC_Rights := PySem.W.mg_of X G oa0
    c_Rights := ⟨_, PySem.W.mg_of X G oa0, rfl⟩
    cl_Rights := ⟨opg0, ohd0, opo0, osa0⟩
    in_Rights := ⟨⟨opg0, ohd0, opo0, osa0⟩, oca0, ocn0, oct0, ocm0, by unfold PySem.W.kitOne; simp⟩
    sf_Rights := osf0
    cd_Rights := ⟨_, ocd0, omr0⟩
    ne_Rights := one0
    na_Rights__digit := ona_digit0
    nf_Rights_NoneType := onfNoneType0
    nf_Rights_bool := onfbool0
    nf_Rights_int := onfint0
    nf_Rights_str := onfstr0
    nf_Rights_list := onflist0
    nf_Rights_tuple := onftuple0
    nf_Rights_dict := onfdict0
    kt_Rights_NoneType := kit_ofT oic0 oyt0 oktNoneType0
    kt_Rights_bool := kit_ofT oic0 oyt0 oktbool0
    kt_Rights_int := kit_ofT oic0 oyt0 oktint0
    kt_Rights_str := kit_ofT oic0 oyt0 oktstr0
    kt_Rights_list := kit_ofT oic0 oyt0 oktlist0
    kt_Rights_tuple := kit_ofT oic0 oyt0 okttuple0
    kt_Rights_dict := kit_ofT oic0 oyt0 oktdict0
    sb_Rights_NoneType := oktNoneType0
    sb_Rights_bool := oktbool0
    sb_Rights_int := oktint0
    sb_Rights_str := oktstr0
    sb_Rights_list := oktlist0
    sb_Rights_tuple := okttuple0
    sb_Rights_dict := oktdict0
    cr_AccessList := ⟨ord1, org1⟩
    gC_AccessList := PySem.W.mg_of X G oa1
    c_AccessList := ⟨_, PySem.W.mg_of X G oa1, rfl⟩
    cl_AccessList := ⟨opg1, ohd1, opo1, osa1⟩
    in_AccessList := ⟨⟨opg1, ohd1, opo1, osa1⟩, oca1, ocn1, oct1, ocm1, by unfold PySem.W.kitOne; simp⟩
    sf_AccessList := osf1
    cd_AccessList := ⟨_, ocd1, omr1⟩
    ne_AccessList := one1
    na_AccessList__owner := ona_owner1
    na_AccessList__group := ona_group1
    na_AccessList__other := ona_other1
    na_AccessList__users := ona_users1
    na_AccessList__groups := ona_groups1
    na_AccessList__mask := ona_mask1
    nf_AccessList_NoneType := onfNoneType1
    nf_AccessList_bool := onfbool1
    nf_AccessList_int := onfint1
    nf_AccessList_str := onfstr1
    nf_AccessList_list := onflist1
    nf_AccessList_tuple := onftuple1
    nf_AccessList_dict := onfdict1
    kt_AccessList_NoneType := kit_ofT oic1 oyt1 oktNoneType1
    kt_AccessList_bool := kit_ofT oic1 oyt1 oktbool1
    kt_AccessList_int := kit_ofT oic1 oyt1 oktint1
    kt_AccessList_str := kit_ofT oic1 oyt1 oktstr1
    kt_AccessList_list := kit_ofT oic1 oyt1 oktlist1
    kt_AccessList_tuple := kit_ofT oic1 oyt1 okttuple1
    kt_AccessList_dict := kit_ofT oic1 oyt1 oktdict1
    sb_AccessList_NoneType := oktNoneType1
    sb_AccessList_bool := oktbool1
    sb_AccessList_int := oktint1
    sb_AccessList_str := oktstr1
    sb_AccessList_list := oktlist1
    sb_AccessList_tuple := okttuple1
    sb_AccessList_dict := oktdict1
    cr_People := ⟨ord2, org2⟩
    gC_People := PySem.W.mg_of X G oa2
    c_People := ⟨_, PySem.W.mg_of X G oa2, rfl⟩
    cl_People := ⟨opg2, ohd2, opo2, osa2⟩
    in_People := ⟨⟨opg2, ohd2, opo2, osa2⟩, oca2, ocn2, oct2, ocm2, by unfold PySem.W.kitOne; simp⟩
    sf_People := osf2
    cd_People := ⟨_, ocd2, omr2⟩
    ne_People := one2
    na_People__held := ona_held2
    na_People__groups := ona_groups2
    nf_People_NoneType := onfNoneType2
    nf_People_bool := onfbool2
    nf_People_int := onfint2
    nf_People_str := onfstr2
    nf_People_list := onflist2
    nf_People_tuple := onftuple2
    nf_People_dict := onfdict2
    kt_People_NoneType := kit_ofT oic2 oyt2 oktNoneType2
    kt_People_bool := kit_ofT oic2 oyt2 oktbool2
    kt_People_int := kit_ofT oic2 oyt2 oktint2
    kt_People_str := kit_ofT oic2 oyt2 oktstr2
    kt_People_list := kit_ofT oic2 oyt2 oktlist2
    kt_People_tuple := kit_ofT oic2 oyt2 okttuple2
    kt_People_dict := kit_ofT oic2 oyt2 oktdict2
    sb_People_NoneType := oktNoneType2
    sb_People_bool := oktbool2
    sb_People_int := oktint2
    sb_People_str := oktstr2
    sb_People_list := oktlist2
    sb_People_tuple := okttuple2
    sb_People_dict := oktdict2
    cr_Judge := ⟨ord3, org3⟩
    gC_Judge := PySem.W.mg_of X G oa3
    c_Judge := ⟨_, PySem.W.mg_of X G oa3, rfl⟩
    cl_Judge := ⟨opg3, ohd3, opo3, osa3⟩
    in_Judge := ⟨⟨opg3, ohd3, opo3, osa3⟩, oca3, ocn3, oct3, ocm3, by unfold PySem.W.kitOne; simp⟩
    sf_Judge := osf3
    cd_Judge := ⟨_, ocd3, omr3⟩
    ne_Judge := one3
    na_Judge__people := ona_people3
    F__wall := fun_mk l0 c0 k0
    B__wall := (fun_mk (st := s__wall) l0 c0 k0).binds (ps := ["k"]) fun _ _ _ _ _ _ us hl => match us, hl with | [_], _ => rfl
    g__wall := PySem.W.mg_of X G a0
    F_is_integer := fun_mk l1 c1 k1
    B_is_integer := (fun_mk (st := s_is_integer) l1 c1 k1).binds (ps := ["value", "low", "high"]) fun _ _ _ _ _ _ us hl => match us, hl with | [_, _, _], _ => rfl
    g_is_integer := PySem.W.mg_of X G a1
    F_is_name := fun_mk l2 c2 k2
    B_is_name := (fun_mk (st := s_is_name) l2 c2 k2).binds (ps := ["value"]) fun _ _ _ _ _ _ us hl => match us, hl with | [_], _ => rfl
    g_is_name := PySem.W.mg_of X G a2
    F_is_user_name := fun_mk l3 c3 k3
    B_is_user_name := (fun_mk (st := s_is_user_name) l3 c3 k3).binds (ps := ["value"]) fun _ _ _ _ _ _ us hl => match us, hl with | [_], _ => rfl
    g_is_user_name := PySem.W.mg_of X G a3
    F_is_list := fun_mk l4 c4 k4
    B_is_list := (fun_mk (st := s_is_list) l4 c4 k4).binds (ps := ["value"]) fun _ _ _ _ _ _ us hl => match us, hl with | [_], _ => rfl
    g_is_list := PySem.W.mg_of X G a4
    F_as_rights := fun_mk l5 c5 k5
    B_as_rights := (fun_mk (st := s_as_rights) l5 c5 k5).binds (ps := ["value"]) fun _ _ _ _ _ _ us hl => match us, hl with | [_], _ => rfl
    g_as_rights := PySem.W.mg_of X G a5
    F_as_digit := fun_mk l6 c6 k6
    B_as_digit := (fun_mk (st := s_as_digit) l6 c6 k6).binds (ps := ["value"]) fun _ _ _ _ _ _ us hl => match us, hl with | [_], _ => rfl
    g_as_digit := PySem.W.mg_of X G a6
    F__is_letters := fun_mk l7 c7 k7
    B__is_letters := (fun_mk (st := s__is_letters) l7 c7 k7).binds (ps := ["value"]) fun _ _ _ _ _ _ us hl => match us, hl with | [_], _ => rfl
    g__is_letters := PySem.W.mg_of X G a7
    F__digit_of := fun_mk l8 c8 k8
    B__digit_of := (fun_mk (st := s__digit_of) l8 c8 k8).binds (ps := ["value"]) fun _ _ _ _ _ _ us hl => match us, hl with | [_], _ => rfl
    g__digit_of := PySem.W.mg_of X G a8
    F__named_rights := fun_mk l9 c9 k9
    B__named_rights := (fun_mk (st := s__named_rights) l9 c9 k9).binds (ps := ["value"]) fun _ _ _ _ _ _ us hl => match us, hl with | [_], _ => rfl
    g__named_rights := PySem.W.mg_of X G a9
    F__keys_in_order := fun_mk l10 c10 k10
    B__keys_in_order := (fun_mk (st := s__keys_in_order) l10 c10 k10).binds (ps := ["value"]) fun _ _ _ _ _ _ us hl => match us, hl with | [_], _ => rfl
    g__keys_in_order := PySem.W.mg_of X G a10
    F_is_owner := fun_mk l11 c11 k11
    B_is_owner := (fun_mk (st := s_is_owner) l11 c11 k11).binds (ps := ["people", "value"]) fun _ _ _ _ _ _ us hl => match us, hl with | [_, _], _ => rfl
    g_is_owner := PySem.W.mg_of X G a11
    F_is_owner_group := fun_mk l12 c12 k12
    B_is_owner_group := (fun_mk (st := s_is_owner_group) l12 c12 k12).binds (ps := ["people", "value"]) fun _ _ _ _ _ _ us hl => match us, hl with | [_, _], _ => rfl
    g_is_owner_group := PySem.W.mg_of X G a12
    F__are_users := fun_mk l13 c13 k13
    B__are_users := (fun_mk (st := s__are_users) l13 c13 k13).binds (ps := ["value"]) fun _ _ _ _ _ _ us hl => match us, hl with | [_], _ => rfl
    g__are_users := PySem.W.mg_of X G a13
    F__are_groups := fun_mk l14 c14 k14
    B__are_groups := (fun_mk (st := s__are_groups) l14 c14 k14).binds (ps := ["value"]) fun _ _ _ _ _ _ us hl => match us, hl with | [_], _ => rfl
    g__are_groups := PySem.W.mg_of X G a14
    F_granting_digits := fun_mk l15 c15 k15
    B_granting_digits := (fun_mk (st := s_granting_digits) l15 c15 k15).binds (ps := ["people", "user", "owner", "group", "access"]) fun _ _ _ _ _ _ us hl => match us, hl with | [_, _, _, _, _], _ => rfl
    g_granting_digits := PySem.W.mg_of X G a15
    F__fitting := fun_mk l16 c16 k16
    B__fitting := (fun_mk (st := s__fitting) l16 c16 k16).binds (ps := ["people", "user", "owner", "group", "access"]) fun _ _ _ _ _ _ us hl => match us, hl with | [_, _, _, _, _], _ => rfl
    g__fitting := PySem.W.mg_of X G a16
    F_cell := fun_mk l17 c17 k17
    B_cell := (fun_mk (st := s_cell) l17 c17 k17).binds (ps := ["_law_script", "_law_k"]) fun _ _ _ _ _ _ us hl => match us, hl with | [_, _], _ => rfl
    g_cell := PySem.W.mg_of X G a17
    F_bag := fun_mk l18 c18 k18
    B_bag := (fun_mk (st := s_bag) l18 c18 k18).binds (ps := ["_law_number"]) fun _ _ _ _ _ _ us hl => match us, hl with | [_], _ => rfl
    g_bag := PySem.W.mg_of X G a18
    F_take := fun_mk l19 c19 k19
    B_take := (fun_mk (st := s_take) l19 c19 k19).binds (ps := ["_law_bag_here", "_law_count"]) fun _ _ _ _ _ _ us hl => match us, hl with | [_, _], _ => rfl
    g_take := PySem.W.mg_of X G a19
    F_bad := fun_mk l20 c20 k20
    B_bad := (fun_mk (st := s_bad) l20 c20 k20).binds (ps := ["_law_bag_here", "_law_at"]) fun _ _ _ _ _ _ us hl => match us, hl with | [_, _], _ => rfl
    g_bad := PySem.W.mg_of X G a20
    F_asked := fun_mk l21 c21 k21
    B_asked := (fun_mk (st := s_asked) l21 c21 k21).binds (ps := ["_law_judge", "_law_way", "_law_things"]) fun _ _ _ _ _ _ us hl => match us, hl with | [_, _, _], _ => rfl
    g_asked := PySem.W.mg_of X G a21
    F_tried := fun_mk l22 c22 k22
    B_tried := (fun_mk (st := s_tried) l22 c22 k22).binds (ps := ["_law_judge", "_law_way", "_law_things"]) fun _ _ _ _ _ _ us hl => match us, hl with | [_, _, _], _ => rfl
    g_tried := PySem.W.mg_of X G a22
    F_no_people := fun_mk l23 c23 k23
    B_no_people := (fun_mk (st := s_no_people) l23 c23 k23).binds (ps := ["_law_thing"]) fun _ _ _ _ _ _ us hl => match us, hl with | [_], _ => rfl
    g_no_people := PySem.W.mg_of X G a23
    F_law := fun_mk l24 c24 k24
    B_law := (fun_mk (st := s_law) l24 c24 k24).binds (ps := ["_law_script"]) fun _ _ _ _ _ _ us hl => match us, hl with | [_], _ => rfl
    g_law := PySem.W.mg_of X G a24
    F_Rights___init__ := ⟨⟨oc25, od25, .ref DT25, kV25, dc25, pm25, an25, cd25, ct25, sl25, rfl, l25, c25, .inr ⟨by simp, DT25, dto25, dti25, dtn25, rfl, dl25, dd25, dv25⟩, .inl rfl⟩, k25⟩
    me_Rights___init__ := ⟨a25, t25, k25⟩
    mk_Rights := ⟨omk0, a25, t25, okc0⟩
    F_Rights_of := fun_mk l26 c26 k26
    cm_Rights_of := ⟨a26, ⟨_, px26⟩, pf26⟩
    F_Rights_from_digit := fun_mk l27 c27 k27
    B_Rights_from_digit := (fun_mk (st := s_Rights_from_digit) l27 c27 k27).binds (ps := ["cls", "digit"]) fun _ _ _ _ _ _ us hl => match us, hl with | [_, _], _ => rfl
    cm_Rights_from_digit := ⟨a27, ⟨_, px27⟩, pf27⟩
    F_Rights_digit := fun_mk l28 c28 k28
    B_Rights_digit := (fun_mk (st := s_Rights_digit) l28 c28 k28).binds (ps := ["self"]) fun _ _ _ _ _ _ us hl => match us, hl with | [_], _ => rfl
    pr_Rights_digit := ⟨a28, pg28, pt28, _, px28⟩
    F_Rights___or__ := fun_mk l31 c31 k31
    B_Rights___or__ := (fun_mk (st := s_Rights___or__) l31 c31 k31).binds (ps := ["self", "other"]) fun _ _ _ _ _ _ us hl => match us, hl with | [_, _], _ => rfl
    me_Rights___or__ := ⟨a31, t31, k31⟩
    F_AccessList___init__ := ⟨⟨oc42, od42, .none, .ref D42, dc42, pm42, an42, cd42, ct42, sl42, rfl, l42, c42, .inl ⟨rfl, rfl⟩, .inr ⟨D42, rfl, (List.forall_mem_cons.mpr ⟨⟨_, w42_0, rfl⟩, (List.forall_mem_cons.mpr ⟨⟨_, w42_1, rfl⟩, (List.forall_mem_cons.mpr ⟨⟨_, w42_2, rfl⟩, (fun _ h => by simp at h)⟩)⟩)⟩)⟩⟩, k42⟩
    me_AccessList___init__ := ⟨a42, t42, k42⟩
    mk_AccessList := ⟨omk1, a42, t42, okc1⟩
    F_AccessList__first_mask := fun_mk l43 c43 k43
    B_AccessList__first_mask := (fun_mk (st := s_AccessList__first_mask) l43 c43 k43).binds (ps := ["self"]) fun _ _ _ _ _ _ us hl => match us, hl with | [_], _ => rfl
    me_AccessList__first_mask := ⟨a43, t43, k43⟩
    F_AccessList_owner := fun_mk l47 c47 k47
    B_AccessList_owner := (fun_mk (st := s_AccessList_owner) l47 c47 k47).binds (ps := ["self"]) fun _ _ _ _ _ _ us hl => match us, hl with | [_], _ => rfl
    pr_AccessList_owner := ⟨a47, pg47, pt47, _, px47⟩
    F_AccessList_group := fun_mk l48 c48 k48
    B_AccessList_group := (fun_mk (st := s_AccessList_group) l48 c48 k48).binds (ps := ["self"]) fun _ _ _ _ _ _ us hl => match us, hl with | [_], _ => rfl
    pr_AccessList_group := ⟨a48, pg48, pt48, _, px48⟩
    F_AccessList_other := fun_mk l49 c49 k49
    B_AccessList_other := (fun_mk (st := s_AccessList_other) l49 c49 k49).binds (ps := ["self"]) fun _ _ _ _ _ _ us hl => match us, hl with | [_], _ => rfl
    pr_AccessList_other := ⟨a49, pg49, pt49, _, px49⟩
    F_AccessList_mask := fun_mk l50 c50 k50
    B_AccessList_mask := (fun_mk (st := s_AccessList_mask) l50 c50 k50).binds (ps := ["self"]) fun _ _ _ _ _ _ us hl => match us, hl with | [_], _ => rfl
    pr_AccessList_mask := ⟨a50, pg50, pt50, _, px50⟩
    F_AccessList_users := fun_mk l53 c53 k53
    B_AccessList_users := (fun_mk (st := s_AccessList_users) l53 c53 k53).binds (ps := ["self"]) fun _ _ _ _ _ _ us hl => match us, hl with | [_], _ => rfl
    me_AccessList_users := ⟨a53, t53, k53⟩
    F_AccessList_groups := fun_mk l54 c54 k54
    B_AccessList_groups := (fun_mk (st := s_AccessList_groups) l54 c54 k54).binds (ps := ["self"]) fun _ _ _ _ _ _ us hl => match us, hl with | [_], _ => rfl
    me_AccessList_groups := ⟨a54, t54, k54⟩
    F_People___init__ := fun_mk l66 c66 k66
    B_People___init__ := (fun_mk (st := s_People___init__) l66 c66 k66).binds (ps := ["self", "members"]) fun _ _ _ _ _ _ us hl => match us, hl with | [_, _], _ => rfl
    me_People___init__ := ⟨a66, t66, k66⟩
    mk_People := ⟨omk2, a66, t66, okc2⟩
    F_People_groups := fun_mk l68 c68 k68
    B_People_groups := (fun_mk (st := s_People_groups) l68 c68 k68).binds (ps := ["self"]) fun _ _ _ _ _ _ us hl => match us, hl with | [_], _ => rfl
    me_People_groups := ⟨a68, t68, k68⟩
    F_People_groups_of := fun_mk l69 c69 k69
    B_People_groups_of := (fun_mk (st := s_People_groups_of) l69 c69 k69).binds (ps := ["self", "user"]) fun _ _ _ _ _ _ us hl => match us, hl with | [_, _], _ => rfl
    me_People_groups_of := ⟨a69, t69, k69⟩
    F_People___contains__ := fun_mk l72 c72 k72
    B_People___contains__ := (fun_mk (st := s_People___contains__) l72 c72 k72).binds (ps := ["self", "value"]) fun _ _ _ _ _ _ us hl => match us, hl with | [_, _], _ => rfl
    me_People___contains__ := ⟨a72, t72, k72⟩
    F_Judge___init__ := fun_mk l76 c76 k76
    B_Judge___init__ := (fun_mk (st := s_Judge___init__) l76 c76 k76).binds (ps := ["self", "people"]) fun _ _ _ _ _ _ us hl => match us, hl with | [_, _], _ => rfl
    me_Judge___init__ := ⟨a76, t76, k76⟩
    mk_Judge := ⟨omk3, a76, t76, okc3⟩
    F_Judge___call__ := fun_mk l77 c77 k77
    B_Judge___call__ := (fun_mk (st := s_Judge___call__) l77 c77 k77).binds (ps := ["self", "user", "owner", "group", "access", "letters"]) fun _ _ _ _ _ _ us hl => match us, hl with | [_, _, _, _, _, _], _ => rfl
    me_Judge___call__ := ⟨a77, t77, k77⟩
    F_Judge_deciding := fun_mk l78 c78 k78
    B_Judge_deciding := (fun_mk (st := s_Judge_deciding) l78 c78 k78).binds (ps := ["self", "user", "owner", "group", "access", "letters"]) fun _ _ _ _ _ _ us hl => match us, hl with | [_, _, _, _, _, _], _ => rfl
    me_Judge_deciding := ⟨a78, t78, k78⟩
    F_Judge_letters_of := fun_mk l79 c79 k79
    B_Judge_letters_of := (fun_mk (st := s_Judge_letters_of) l79 c79 k79).binds (ps := ["self", "user", "owner", "group", "access"]) fun _ _ _ _ _ _ us hl => match us, hl with | [_, _, _, _, _], _ => rfl
    me_Judge_letters_of := ⟨a79, t79, k79⟩
    F_Judge__check := fun_mk l80 c80 k80
    B_Judge__check := (fun_mk (st := s_Judge__check) l80 c80 k80).binds (ps := ["self", "user", "owner", "group", "access"]) fun _ _ _ _ _ _ us hl => match us, hl with | [_, _, _, _, _], _ => rfl
    me_Judge__check := ⟨a80, t80, k80⟩
    c_RightsError := ⟨_, PySem.W.mg_of X G ka0, rfl⟩
    c_MissingError := ⟨_, PySem.W.mg_of X G ka1, rfl⟩
    c_InvalidList := ⟨_, PySem.W.mg_of X G ka2, rfl⟩
    c_InvalidRights := ⟨_, PySem.W.mg_of X G ka3, rfl⟩
    c_InvalidPeople := ⟨_, PySem.W.mg_of X G ka4, rfl⟩
    c_UnknownUser := ⟨_, PySem.W.mg_of X G ka5, rfl⟩
    c_UnknownGroup := ⟨_, PySem.W.mg_of X G ka6, rfl⟩
    low_InvalidList := { gC := PySem.W.mg_of X G ka2, cls := ⟨_, _, _, _, _, _, _, _, _, _, _, _, _, _, _, xl2, rfl⟩, sa := sa2, ga := ga2, gg := gg2, noN := nb2, iC := in2, tC := ti2, kC := kc2, exC := eb2, tyC := yt2, hdC := hd2, te := exm_of eb2 ic2 yt2 sc2, fn := ⟨_, _, _, _, _, _, _, _, _, _, _, _, _, _, li2, ci2⟩ }
    ec_InvalidList := ⟨ga2, gg2, eb2, hd2, ca2, cn2, xt2, cm2⟩
    low_InvalidRights := { gC := PySem.W.mg_of X G ka3, cls := ⟨_, _, _, _, _, _, _, _, _, _, _, _, _, _, _, xl3, rfl⟩, sa := sa3, ga := ga3, gg := gg3, noN := nb3, iC := in3, tC := ti3, kC := kc3, exC := eb3, tyC := yt3, hdC := hd3, te := exm_of eb3 ic3 yt3 sc3, fn := ⟨_, _, _, _, _, _, _, _, _, _, _, _, _, _, li3, ci3⟩ }
    ec_InvalidRights := ⟨ga3, gg3, eb3, hd3, ca3, cn3, xt3, cm3⟩
    low_InvalidPeople := { gC := PySem.W.mg_of X G ka4, cls := ⟨_, _, _, _, _, _, _, _, _, _, _, _, _, _, _, xl4, rfl⟩, sa := sa4, ga := ga4, gg := gg4, noN := nb4, iC := in4, tC := ti4, kC := kc4, exC := eb4, tyC := yt4, hdC := hd4, te := exm_of eb4 ic4 yt4 sc4, fn := ⟨_, _, _, _, _, _, _, _, _, _, _, _, _, _, li4, ci4⟩ }
    ec_InvalidPeople := ⟨ga4, gg4, eb4, hd4, ca4, cn4, xt4, cm4⟩
    low_UnknownUser := { gC := PySem.W.mg_of X G ka5, cls := ⟨_, _, _, _, _, _, _, _, _, _, _, _, _, _, _, xl5, (PySem.ExM.Over.ref _ (PySem.ExM.Over.base)).rear PySem.ExM.rear_key⟩, sa := sa5, ga := ga5, gg := gg5, noN := nb5, iC := in5, tC := ti5, kC := kc5, exC := eb5, tyC := yt5, hdC := hd5, te := exm_of eb5 ic5 yt5 sc5, fn := ⟨_, _, _, _, _, _, _, _, _, _, _, _, _, _, li5, ci5⟩ }
    ec_UnknownUser := ⟨ga5, gg5, eb5, hd5, ca5, cn5, xt5, cm5⟩
    low_UnknownGroup := { gC := PySem.W.mg_of X G ka6, cls := ⟨_, _, _, _, _, _, _, _, _, _, _, _, _, _, _, xl6, (PySem.ExM.Over.ref _ (PySem.ExM.Over.base)).rear PySem.ExM.rear_key⟩, sa := sa6, ga := ga6, gg := gg6, noN := nb6, iC := in6, tC := ti6, kC := kc6, exC := eb6, tyC := yt6, hdC := hd6, te := exm_of eb6 ic6 yt6 sc6, fn := ⟨_, _, _, _, _, _, _, _, _, _, _, _, _, _, li6, ci6⟩ }
    ec_UnknownGroup := ⟨ga6, gg6, eb6, hd6, ca6, cn6, xt6, cm6⟩
    kit_UnknownUser_MissingError := kit_of sc5 ic1 yt1 kit_UnknownUser_MissingError
    kit_UnknownUser_UnknownGroup := kit_of sc5 ic6 yt6 kit_UnknownUser_UnknownGroup
    kit_UnknownGroup_MissingError := kit_of sc6 ic1 yt1 kit_UnknownGroup_MissingError
    kit_UnknownGroup_RightsError := kit_of sc6 ic0 yt0 kit_UnknownGroup_RightsError
    kit_InvalidList_RightsError := kit_of sc2 ic0 yt0 kit_InvalidList_RightsError
    kit_InvalidList_InvalidRights := kit_of sc2 ic3 yt3 kit_InvalidList_InvalidRights
    kit_InvalidRights_RightsError := kit_of sc3 ic0 yt0 kit_InvalidRights_RightsError
    kit_InvalidRights_MissingError := kit_of sc3 ic1 yt1 kit_InvalidRights_MissingError
    exm_UnknownGroup_UnknownUser := exm_of eb5 ic5 yt5 exm_UnknownGroup_UnknownUser
    exm_InvalidList_UnknownUser := exm_of eb5 ic5 yt5 exm_InvalidList_UnknownUser
    exm_InvalidList_UnknownGroup := exm_of eb6 ic6 yt6 exm_InvalidList_UnknownGroup
    exm_InvalidRights_UnknownUser := exm_of eb5 ic5 yt5 exm_InvalidRights_UnknownUser
    exm_InvalidRights_UnknownGroup := exm_of eb6 ic6 yt6 exm_InvalidRights_UnknownGroup
    exm_InvalidRights_InvalidList := exm_of eb2 ic2 yt2 exm_InvalidRights_InvalidList
    c_LONGEST_NAME := ⟨_, PySem.W.mg_of X G q0, _, rfl⟩
    c_LETTERS := ⟨_, PySem.W.mg_of X G q1, _, rfl⟩
    c_ALL_DIGIT := ⟨_, PySem.W.mg_of X G q2, _, rfl⟩
    c_DIGITS := ⟨_, PySem.W.mg_of X G q3, rfl⟩
    kd_DIGITS := ⟨_, _, kl3, ky3, ks3⟩
    ms_DIGITS := fun z hz => FR.ns_miss (ks := ["", "x", "w", "wx", "xw", "r", "rx", "xr", "rw", "wr", "rwx", "rxw", "wrx", "wxr", "xrw", "xwr"]) kl3 kq3 hz
    at_DIGITS_ := ⟨_, _, _, kl3, ky3, kv3_0, _, rfl⟩
    at_DIGITS_x := ⟨_, _, _, kl3, ky3, kv3_1, _, rfl⟩
    at_DIGITS_w := ⟨_, _, _, kl3, ky3, kv3_2, _, rfl⟩
    at_DIGITS_wx := ⟨_, _, _, kl3, ky3, kv3_3, _, rfl⟩
    at_DIGITS_xw := ⟨_, _, _, kl3, ky3, kv3_4, _, rfl⟩
    at_DIGITS_r := ⟨_, _, _, kl3, ky3, kv3_5, _, rfl⟩
    at_DIGITS_rx := ⟨_, _, _, kl3, ky3, kv3_6, _, rfl⟩
    at_DIGITS_xr := ⟨_, _, _, kl3, ky3, kv3_7, _, rfl⟩
    at_DIGITS_rw := ⟨_, _, _, kl3, ky3, kv3_8, _, rfl⟩
    at_DIGITS_wr := ⟨_, _, _, kl3, ky3, kv3_9, _, rfl⟩
    at_DIGITS_rwx := ⟨_, _, _, kl3, ky3, kv3_10, _, rfl⟩
    at_DIGITS_rxw := ⟨_, _, _, kl3, ky3, kv3_11, _, rfl⟩
    at_DIGITS_wrx := ⟨_, _, _, kl3, ky3, kv3_12, _, rfl⟩
    at_DIGITS_wxr := ⟨_, _, _, kl3, ky3, kv3_13, _, rfl⟩
    at_DIGITS_xrw := ⟨_, _, _, kl3, ky3, kv3_14, _, rfl⟩
    at_DIGITS_xwr := ⟨_, _, _, kl3, ky3, kv3_15, _, rfl⟩
    c_WORDS := ⟨_, PySem.W.mg_of X G q4, rfl⟩
    tu_WORDS := ⟨_, _, _, kl4, ku4, kd4, kz4, kv4⟩
    c_MOST_NAMED := ⟨_, PySem.W.mg_of X G q5, _, rfl⟩
    c_KIND_SIGNS := ⟨_, PySem.W.mg_of X G q6, rfl⟩
    kd_KIND_SIGNS := ⟨_, _, kl6, ky6, ks6⟩
    ms_KIND_SIGNS := fun z hz => FR.ns_miss (ks := ["owner", "user", "group", "named", "mask", "other"]) kl6 kq6 hz
    at_KIND_SIGNS_owner := ⟨_, _, _, kl6, ky6, kv6_0, _, rfl⟩
    at_KIND_SIGNS_user := ⟨_, _, _, kl6, ky6, kv6_1, _, rfl⟩
    at_KIND_SIGNS_group := ⟨_, _, _, kl6, ky6, kv6_2, _, rfl⟩
    at_KIND_SIGNS_named := ⟨_, _, _, kl6, ky6, kv6_3, _, rfl⟩
    at_KIND_SIGNS_mask := ⟨_, _, _, kl6, ky6, kv6_4, _, rfl⟩
    at_KIND_SIGNS_other := ⟨_, _, _, kl6, ky6, kv6_5, _, rfl⟩
    c_MOST_USERS := ⟨_, PySem.W.mg_of X G q7, _, rfl⟩
    c_MOST_GROUPS := ⟨_, PySem.W.mg_of X G q8, _, rfl⟩
    b_all := PySem.W.mg_none_of X G z0
    b_any := PySem.W.mg_none_of X G z1
    b_bool := PySem.W.mg_none_of X G z2
    b_dict := PySem.W.mg_none_of X G z3
    b_int := PySem.W.mg_none_of X G z4
    b_isinstance := PySem.W.mg_none_of X G z5
    b_len := PySem.W.mg_none_of X G z6
    b_list := PySem.W.mg_none_of X G z7
    b_max := PySem.W.mg_none_of X G z8
    b_min := PySem.W.mg_none_of X G z9
    b_range := PySem.W.mg_none_of X G z10
    b_repr := PySem.W.mg_none_of X G z11
    b_set := PySem.W.mg_none_of X G z12
    b_sorted := PySem.W.mg_none_of X G z13
    b_str := PySem.W.mg_none_of X G z14
    b_tuple := PySem.W.mg_none_of X G z15 }
  exact fun base _ _ => ok_law T
end K28
namespace PySem.W.Fast
theorem tw11081106000492215299 : True := .intro
theorem tw15914906075302127023 : True := .intro
theorem tw14751265511700234835 : True := .intro
theorem tw9769643011728079502 : True := .intro
theorem tw14921027565225844346 : True := .intro
theorem tw849377993107850743 : True := .intro
theorem tw4365519497472517228 : True := .intro
theorem tw2155681770207270467 : True := .intro
theorem tw5295009096858423287 : True := .intro
theorem tw10509474383323552967 : True := .intro
theorem tw7133410073292528849 : True := .intro
theorem tw16269239466238225071 : True := .intro
theorem tw16458019680206037883 : True := .intro
theorem tw965274441817931922 : True := .intro
theorem tw5962994472290044826 : True := .intro
theorem tw3012986961569161146 : True := .intro
theorem tw10817727880992908201 : True := .intro
theorem tw12562159757554631478 : True := .intro
theorem tw1871352107055289074 : True := .intro
theorem tw15292536945787487228 : True := .intro
theorem tw10855144473009640256 : True := .intro
theorem tw2650646556502070576 : True := .intro
theorem tw15074280211319026374 : True := .intro
theorem tw5000268944033452961 : True := .intro
theorem tw15294075900433774034 : True := .intro
theorem tw15775543970852884386 : True := .intro
theorem tw12212803331861295661 : True := .intro
theorem tw10892452687172006847 : True := .intro
theorem tw11183795456740808539 : True := .intro
theorem tw14254102175011329915 : True := .intro
theorem tw841725066451210894 : True := .intro
theorem tw4770177498046571491 : True := .intro
theorem tw12138784202467799783 : True := .intro
theorem tw18226974603890627013 : True := .intro
theorem tw7511707408560634230 : True := .intro
theorem tw9200726670841035265 : True := .intro
theorem tw2719926580923603053 : True := .intro
theorem tw11373726583581386318 : True := .intro
theorem tw14325182902338069706 : True := .intro
theorem tw13643939153541826914 : True := .intro
theorem tw17611605279745090342 : True := .intro
theorem tw6202721474546552335 : True := .intro
theorem tw10332586191890718712 : True := .intro
theorem tw11622978789000081671 : True := .intro
theorem tw15403427226458251724 : True := .intro
theorem tw8557047991690516147 : True := .intro
theorem tw9926777546329241930 : True := .intro
theorem tw6400331320028887361 : True := .intro
theorem tw3010819116286955823 : True := .intro
theorem tw6225426677964396101 : True := .intro
theorem tw16391977277197812923 : True := .intro
theorem tw17816505377512406766 : True := .intro
theorem tw8861822781215593951 : True := .intro
theorem tw4397556386965118896 : True := .intro
theorem tw5014801606882118043 : True := .intro
theorem tw12665332226343331276 : True := .intro
theorem tw4204908724405577942 : True := .intro
theorem tw140918721701346867 : True := .intro
theorem tw4396870679289353350 : True := .intro
theorem tw7830793892423728096 : True := .intro
theorem tw9430037811413566323 : True := .intro
theorem tw16915509276181319889 : True := .intro
theorem tw9678887472937497753 : True := .intro
theorem tw9853809309419163056 : True := .intro
theorem tw14606275597560354434 : True := .intro
theorem tw17600770269502751854 : True := .intro
theorem tw15940596114259818111 : True := .intro
theorem tw7041668767752072797 : True := .intro
theorem tw5311341736426194285 : True := .intro
theorem tw6689046724109580759 : True := .intro
theorem tw1055077156725029406 : True := .intro
theorem tw17953150513165855676 : True := .intro
theorem tw10736269287990113905 : True := .intro
theorem tw17299638118680250038 : True := .intro
theorem tw10871951747004624688 : True := .intro
theorem tw16456595403718546202 : True := .intro
theorem tw14408307999593105317 : True := .intro
theorem tw15651646379082855731 : True := .intro
theorem tw1359042296827362864 : True := .intro
theorem tw3182877898478402503 : True := .intro
theorem tw8613920802502615298 : True := .intro
theorem tw2942138614956410880 : True := .intro
theorem tw2548852216164463269 : True := .intro
theorem tw15037467525646668827 : True := .intro
theorem tw8492589532973940762 : True := .intro
theorem tw15035148781399015455 : True := .intro
theorem tw14537436510944707062 : True := .intro
theorem tw2775543528950927710 : True := .intro
theorem tw2013116722814871920 : True := .intro
theorem tw5398117338795614087 : True := .intro
theorem tw15002403503819241671 : True := .intro
theorem tw12639478135600712021 : True := .intro
theorem tw11544826536141532927 : True := .intro
theorem tw5450889020539304262 : True := .intro
theorem tw6009717836601854704 : True := .intro
theorem tw7004228195493464050 : True := .intro
theorem tw1789531834183789654 : True := .intro
theorem tw9700798098047956479 : True := .intro
theorem tw3832111999458583459 : True := .intro
theorem tw16567947794849748714 : True := .intro
theorem tw16064382054859793181 : True := .intro
theorem tw4030875864535261927 : True := .intro
theorem tw3045691280175443352 : True := .intro
theorem tw15053399247775799777 : True := .intro
theorem tw4651766567282086512 : True := .intro
theorem tw4043760814016505731 : True := .intro
theorem tw11516903838486266423 : True := .intro
theorem tw14646055337495709950 : True := .intro
theorem tw9564183352564286188 : True := .intro
theorem tw8698742734751215255 : True := .intro
theorem tw194207722954412309 : True := .intro
theorem tw7134433341644736264 : True := .intro
theorem tw6422853451012378719 : True := .intro
theorem tw5492215281970636559 : True := .intro
theorem tw7511475014538775011 : True := .intro
theorem tw1670598798989355020 : True := .intro
theorem tw18172707264449513469 : True := .intro
theorem tw10491342621458638747 : True := .intro
theorem tw17538238185929579558 : True := .intro
theorem tw8213462921891819207 : True := .intro
theorem tw13621182070260489854 : True := .intro
theorem tw6148132703797384502 : True := .intro
theorem tw13320740189119816000 : True := .intro
theorem tw17740927867667992086 : True := .intro
theorem tw17785836734038166923 : True := .intro
theorem tw9287453114198748208 : True := .intro
theorem tw9956940228180435974 : True := .intro
theorem tw14006529159497854929 : True := .intro
theorem tw8458386663256142581 : True := .intro
theorem tw15849245027763803198 : True := .intro
theorem tw2889506487209812028 : True := .intro
theorem tw13340227997488387843 : True := .intro
theorem tw11907550972501386461 : True := .intro
theorem tw13016690685387697478 : True := .intro
theorem tw441616622292502115 : True := .intro
theorem tw8229082606312212158 : True := .intro
theorem tw2627720391007427701 : True := .intro
theorem tw16749048957000763489 : True := .intro
theorem tw17990401324654891217 : True := .intro
theorem tw13043309625774752486 : True := .intro
theorem tw3220053156828694084 : True := .intro
theorem tw9933747641744454235 : True := .intro
theorem tw18155741149328606820 : True := .intro
theorem tw6748596589562130060 : True := .intro
theorem tw979592425273162211 : True := .intro
theorem tw11330912751946209979 : True := .intro
theorem tw6231223562753165451 : True := .intro
theorem tw13100147380291689047 : True := .intro
theorem tw4041088144701674859 : True := .intro
theorem tw3482199679363360702 : True := .intro
theorem tw8460657716535194318 : True := .intro
theorem tw17822207873609781099 : True := .intro
theorem tw167991454577861766 : True := .intro
theorem tw1793940375426361457 : True := .intro
theorem tw1908603343562971317 : True := .intro
theorem tw17511927179109643894 : True := .intro
theorem tw13662033296437322866 : True := .intro
theorem tw16616847487779786757 : True := .intro
theorem tw12664464500190139702 : True := .intro
theorem tw12446040981469520699 : True := .intro
theorem tw13533281615100772807 : True := .intro
theorem tw8838205529966316544 : True := .intro
theorem tw13570271122289499461 : True := .intro
theorem tw6127369891084845874 : True := .intro
theorem tw15216989293776386617 : True := .intro
theorem tw2968980145963501966 : True := .intro
theorem tw10595905211716908168 : True := .intro
theorem tw2930080993883702978 : True := .intro
theorem tw10883356271756698220 : True := .intro
theorem tw9188800385515042529 : True := .intro
theorem tw9433349037361203232 : True := .intro
theorem tw1224644842367876829 : True := .intro
theorem tw3843220882304623512 : True := .intro
theorem tw12331659268884387844 : True := .intro
theorem tw4478934880096182544 : True := .intro
theorem tw9642205419337686106 : True := .intro
theorem tw16595041925803348963 : True := .intro
theorem tw9099521865175642488 : True := .intro
theorem tw17696307987612997930 : True := .intro
theorem tw16791173860645877409 : True := .intro
theorem tw9740753424519946269 : True := .intro
theorem tw6738043378365810369 : True := .intro
theorem tw16486608069068975482 : True := .intro
theorem tw6619552128533105994 : True := .intro
theorem tw3812638772064374711 : True := .intro
theorem tw7522486600971144265 : True := .intro
theorem tw3683031079818879754 : True := .intro
theorem tw17830546514707155559 : True := .intro
theorem tw3475303869937395072 : True := .intro
theorem tw12911216004362182644 : True := .intro
theorem tw11603228948292749173 : True := .intro
theorem tw12923635514613193973 : True := .intro
theorem tw17392451297028767112 : True := .intro
theorem tw15059613914557913875 : True := .intro
theorem tw11403676128462791716 : True := .intro
theorem tw3077411105148317952 : True := .intro
theorem tw7577798606714523691 : True := .intro
theorem tw14964323834537587608 : True := .intro
theorem tw3141724398209564923 : True := .intro
theorem tw10412796224638924010 : True := .intro
theorem tw4858859621823089942 : True := .intro
theorem tw10284542150297897962 : True := .intro
theorem tw1790607709877350804 : True := .intro
theorem tw12575949878893948060 : True := .intro
theorem tw16800884500738540245 : True := .intro
theorem tw8827319398005939357 : True := .intro
theorem tw14333287524052741653 : True := .intro
theorem tw2935948634821413992 : True := .intro
theorem tw3404790038986827823 : True := .intro
theorem tw15207880809698874982 : True := .intro
theorem tw11578774176407385619 : True := .intro
theorem tw14395881063798571330 : True := .intro
theorem tw14553125776468291324 : True := .intro
theorem tw8236220490781756992 : True := .intro
theorem tw7127169419972438785 : True := .intro
theorem tw11822681050253284169 : True := .intro
theorem tw13993234883530792008 : True := .intro
theorem tw12047241971465472142 : True := .intro
theorem tw9634571911302780192 : True := .intro
theorem tw7554321374669484588 : True := .intro
theorem tw4427527059791337401 : True := .intro
theorem tw17341180088760665574 : True := .intro
theorem tw12557858157077161177 : True := .intro
theorem tw7055582872673528191 : True := .intro
theorem tw3126290970401547625 : True := .intro
theorem tw5355132006243866378 : True := .intro
theorem tw1338872559551867396 : True := .intro
theorem tw15789025207707533868 : True := .intro
theorem tw1620189791796106563 : True := .intro
theorem tw8824121087209098723 : True := .intro
theorem tw12224786089259673813 : True := .intro
theorem tw8852582295223249711 : True := .intro
theorem tw15175004998526846980 : True := .intro
theorem tw14984195860002250621 : True := .intro
theorem tw12642696831322054500 : True := .intro
theorem tw18098673122769357109 : True := .intro
theorem tw230679503124097050 : True := .intro
theorem tw7951750737471869342 : True := .intro
theorem tw10889472289029350846 : True := .intro
theorem tw3506691171101411297 : True := .intro
theorem tw5699787748735288375 : True := .intro
theorem tw5203194300345401772 : True := .intro
theorem tw6498109384674331164 : True := .intro
theorem tw17045456093781827135 : True := .intro
theorem tw740382798440293015 : True := .intro
theorem tw4256966329976692519 : True := .intro
theorem tw12431569670871534753 : True := .intro
theorem tw14085944778304762398 : True := .intro
theorem tw7510486925620090873 : True := .intro
theorem tw4860115324429062541 : True := .intro
theorem tw7427592784377800759 : True := .intro
theorem tw8281116296499874093 : True := .intro
theorem tw17037144683017196789 : True := .intro
theorem tw4194999140440597691 : True := .intro
theorem tw2793471947428478590 : True := .intro
theorem tw13792234612312238608 : True := .intro
theorem tw11656167500867580714 : True := .intro
theorem tw13797083368231975198 : True := .intro
theorem tw2054024054621235793 : True := .intro
theorem tw7854252297728849525 : True := .intro
theorem tw10169471976330828542 : True := .intro
theorem tw15882565917862080717 : True := .intro
theorem tw1525541668023483497 : True := .intro
theorem tw14515988748100196889 : True := .intro
theorem tw1839691073266089374 : True := .intro
theorem tw6206605786173911069 : True := .intro
theorem tw16150999960566079628 : True := .intro
theorem tw4986382412543642457 : True := .intro
theorem tw16638095575783456535 : True := .intro
theorem tw608120787352613951 : True := .intro
theorem tw14168527221930050707 : True := .intro
theorem tw8612797554564651465 : True := .intro
theorem tw3159077536571254823 : True := .intro
theorem tw2031060408385637036 : True := .intro
theorem tw5172887339986305511 : True := .intro
theorem tw12472156863460222524 : True := .intro
theorem tw10098478044812816766 : True := .intro
theorem tw10403429432099956116 : True := .intro
theorem tw13402394906959776400 : True := .intro
theorem tw11267824382532151943 : True := .intro
theorem tw9573973106226805891 : True := .intro
theorem tw15098771667186090378 : True := .intro
theorem tw6006609446098299888 : True := .intro
theorem tw7125117173462537199 : True := .intro
theorem tw2975241212143752080 : True := .intro
theorem tw14088945749747248028 : True := .intro
theorem tw5488439613208687562 : True := .intro
theorem tw18149316997304418911 : True := .intro
theorem tw1202038519397944787 : True := .intro
theorem tw7487592642868558181 : True := .intro
theorem tw10402457835194707586 : True := .intro
theorem tw9935419167225250328 : True := .intro
theorem tw4925195217612078343 : True := .intro
theorem tw15349380508899590078 : True := .intro
theorem tw18090992187442894196 : True := .intro
theorem tw17324255113919597176 : True := .intro
theorem tw2079735511749218977 : True := .intro
theorem tw218788870169680073 : True := .intro
theorem tw4991037981845431695 : True := .intro
theorem tw7518215015479863033 : True := .intro
theorem tw18177399104895471588 : True := .intro
theorem tw17055192060515428899 : True := .intro
theorem tw12024652925622966794 : True := .intro
theorem tw10599470139051649981 : True := .intro
theorem tw2638277811092686661 : True := .intro
theorem tw16371079258151462187 : True := .intro
theorem tw17461474838579743287 : True := .intro
theorem tw13057210845010241030 : True := .intro
theorem tw9962984449723977758 : True := .intro
theorem tw9936662514087259422 : True := .intro
theorem tw4920741999233078148 : True := .intro
theorem tw10226337606825530072 : True := .intro
theorem tw4478648463058702360 : True := .intro
theorem tw6127583239164963774 : True := .intro
theorem tw4754503910873896642 : True := .intro
theorem tw16559211461063149544 : True := .intro
theorem tw13312379554841007219 : True := .intro
theorem tw958988804369828245 : True := .intro
theorem tw6188204999377111223 : True := .intro
theorem tw8602830939557301055 : True := .intro
theorem tw6240151540610539743 : True := .intro
theorem tw13333502860966284848 : True := .intro
theorem tw798225059014934415 : True := .intro
theorem tw9806791453427178352 : True := .intro
theorem tw16563690123340422356 : True := .intro
theorem tw10339506666095195983 : True := .intro
theorem tw7479103555360333281 : True := .intro
theorem tw16617693290769860726 : True := .intro
theorem tw1081441794884030125 : True := .intro
theorem tw8608489692671323715 : True := .intro
theorem tw15269325551142207242 : True := .intro
theorem tw13072207807611783068 : True := .intro
theorem tw8590938432691228799 : True := .intro
theorem tw1897180088230641461 : True := .intro
theorem tw4444275361341420810 : True := .intro
theorem tw293153094988316604 : True := .intro
theorem tw16147883783055319842 : True := .intro
theorem tw17499306729188750067 : True := .intro
theorem tw9390037979016479539 : True := .intro
theorem tw8108586347480619374 : True := .intro
theorem tw3448339678531241655 : True := .intro
theorem tw494403370235988492 : True := .intro
theorem tw18019445626037785285 : True := .intro
theorem tw3195621471363558896 : True := .intro
theorem tw9215959022120774663 : True := .intro
theorem tw13419118576355612911 : True := .intro
theorem tw14665909303767848330 : True := .intro
theorem tw9396256888942973228 : True := .intro
theorem tw7323580611674373999 : True := .intro
theorem tw8380480289897913391 : True := .intro
theorem tw15084026204875347120 : True := .intro
theorem tw44378518003646397 : True := .intro
theorem tw16766496660922163492 : True := .intro
theorem tw14671810743786519452 : True := .intro
theorem tw11733298492478831302 : True := .intro
theorem tw7741166893049592014 : True := .intro
theorem tw15270592345730918215 : True := .intro
theorem tw3023825997294736638 : True := .intro
theorem tw523746984874665837 : True := .intro
theorem tw15107689483480128687 : True := .intro
theorem tw1464868287095751834 : True := .intro
theorem tw8845865386962355416 : True := .intro
theorem tw8160469613949855359 : True := .intro
theorem tw2932986418324078971 : True := .intro
theorem tw3203207453191070541 : True := .intro
theorem tw1658667173847205280 : True := .intro
theorem tw9843588323389033006 : True := .intro
theorem tw4500318694711827285 : True := .intro
theorem tw8431417616910043958 : True := .intro
theorem tw8015217662254961528 : True := .intro
theorem tw14878202709641337463 : True := .intro
theorem tw6430499059909978423 : True := .intro
theorem tw3548991683731841382 : True := .intro
theorem tw12975542298029092063 : True := .intro
theorem tw10531763408545830617 : True := .intro
theorem tw12274592740384116522 : True := .intro
theorem tw17145441148158889484 : True := .intro
theorem tw9851067954758707129 : True := .intro
theorem tw12245608972416309463 : True := .intro
theorem tw10991802154798415266 : True := .intro
theorem tw16719564998664866100 : True := .intro
theorem tw510756517559345368 : True := .intro
theorem tw15928055101406281755 : True := .intro
theorem tw6692255896224844107 : True := .intro
theorem tw16960289369994232782 : True := .intro
theorem tw4711135585464102714 : True := .intro
theorem tw5907322315315209122 : True := .intro
theorem tw6967068527930492064 : True := .intro
theorem tw9093912565907848373 : True := .intro
theorem tw3154859183246900912 : True := .intro
theorem tw6241800434717463947 : True := .intro
theorem tw15214998996389014354 : True := .intro
theorem tw819752017014276089 : True := .intro
theorem tw9057271573854681983 : True := .intro
theorem tw7105972135266911626 : True := .intro
theorem tw18340300420674123560 : True := .intro
theorem tw4603513994348962288 : True := .intro
theorem tw4965847494708845170 : True := .intro
theorem tw12244406977493783247 : True := .intro
theorem tw3887483368974995443 : True := .intro
theorem tw4950948673001583169 : True := .intro
theorem tw5760906861930180625 : True := .intro
theorem tw10654216743159899980 : True := .intro
theorem tw17094827982848785302 : True := .intro
theorem tw15269035062765444576 : True := .intro
theorem tw8717190211562548074 : True := .intro
theorem tw17856898124783344467 : True := .intro
theorem tw16766454504347292758 : True := .intro
theorem tw2080846356794505694 : True := .intro
theorem tw3425900143245192281 : True := .intro
theorem tw12313992861915042229 : True := .intro
theorem tw461867570469887140 : True := .intro
theorem tw321946594398030545 : True := .intro
theorem tw1667022450928338454 : True := .intro
theorem tw3171419745410391096 : True := .intro
theorem tw15787443409612948958 : True := .intro
theorem tw12758089752883709078 : True := .intro
theorem tw15848455033730776915 : True := .intro
theorem tw11602773362166479847 : True := .intro
theorem tw12916342977498683163 : True := .intro
theorem tw2697104177364136862 : True := .intro
theorem tw9005094207163154198 : True := .intro
theorem tw431756119749607718 : True := .intro
theorem tw12642282145599350830 : True := .intro
theorem tw18392187017582130785 : True := .intro
theorem tw16785175386086804557 : True := .intro
theorem tw18146687235963020766 : True := .intro
theorem tw3609998843405264443 : True := .intro
theorem tw450435279849093084 : True := .intro
theorem tw17268808360450244659 : True := .intro
theorem tw16398499541149421163 : True := .intro
theorem tw1123583928073008721 : True := .intro
theorem tw1635737711020143217 : True := .intro
theorem tw5715989217057585521 : True := .intro
theorem tw6946864804166274800 : True := .intro
theorem tw17688250587380147486 : True := .intro
theorem tw14798934917465873946 : True := .intro
theorem tw886654202157189042 : True := .intro
theorem tw1810173408308428190 : True := .intro
theorem tw6111663386088159506 : True := .intro
theorem tw3579921111362752588 : True := .intro
theorem tw11029202735641581267 : True := .intro
theorem tw12880619903592665229 : True := .intro
theorem tw11536290938057144333 : True := .intro
theorem tw12578904807251388353 : True := .intro
theorem tw12699086009718590159 : True := .intro
theorem tw9282613664618730927 : True := .intro
theorem tw890449180742355921 : True := .intro
theorem tw14135602809709204320 : True := .intro
theorem tw7578583226534307118 : True := .intro
theorem tw4514647052942556369 : True := .intro
theorem tw12425746035471662757 : True := .intro
theorem tw11034594548375302329 : True := .intro
theorem tw10280625944799673429 : True := .intro
theorem tw11991882884705031434 : True := .intro
theorem tw12904129356524081171 : True := .intro
theorem tw3145288669107393617 : True := .intro
theorem tw10635779678317303598 : True := .intro
theorem tw4183896375225316711 : True := .intro
theorem tw8271622165639555410 : True := .intro
theorem tw10478991908519129176 : True := .intro
theorem tw12675645178718228267 : True := .intro
theorem tw13634901879726004270 : True := .intro
theorem tw3004290585042125909 : True := .intro
theorem tw2222963481265403584 : True := .intro
theorem tw12197809787287941693 : True := .intro
theorem tw8774049275544388648 : True := .intro
theorem tw16415499154009384372 : True := .intro
theorem tw11988351107502007171 : True := .intro
theorem tw17739128031732428803 : True := .intro
theorem tw3451720809966127331 : True := .intro
theorem tw4841627638954915947 : True := .intro
theorem tw10988825481599874123 : True := .intro
theorem tw14867494493492392910 : True := .intro
theorem tw13962735421992881847 : True := .intro
theorem tw2637337620480790260 : True := .intro
theorem tw7375062628528049822 : True := .intro
theorem tw12990258979287782566 : True := .intro
theorem tw8712526125823159141 : True := .intro
theorem tw1484654616145332114 : True := .intro
theorem tw5691068331639480616 : True := .intro
theorem tw14993662838956863705 : True := .intro
theorem tw16138459409375656291 : True := .intro
theorem tw7144180114920240761 : True := .intro
theorem tw15283874211740752254 : True := .intro
theorem tw10322024736477619560 : True := .intro
theorem tw2370121290223512517 : True := .intro
theorem tw2934698805417967127 : True := .intro
theorem tw1561315925820164678 : True := .intro
theorem tw6567397095555114780 : True := .intro
theorem tw14736626755423862995 : True := .intro
theorem tw6657843473056091343 : True := .intro
theorem tw2287931298967798099 : True := .intro
theorem tw6231678907515295619 : True := .intro
theorem tw3162528846353764193 : True := .intro
theorem tw13313795425185936525 : True := .intro
theorem tw4547284338382809159 : True := .intro
theorem tw281918312136705761 : True := .intro
theorem tw8404767668284969283 : True := .intro
theorem tw3458812226066086118 : True := .intro
theorem tw6411249283453153619 : True := .intro
theorem tw1675395874446988455 : True := .intro
theorem tw16325993206527847060 : True := .intro
theorem tw17441482498506275173 : True := .intro
theorem tw14461143585793700558 : True := .intro
theorem tw16072234156588155571 : True := .intro
theorem tw1664681460425997206 : True := .intro
theorem tw13117505850776879695 : True := .intro
theorem tw1110979815489362815 : True := .intro
theorem tw5419933566528150893 : True := .intro
theorem tw7579538336854932677 : True := .intro
theorem tw12187041729190043970 : True := .intro
theorem tw13341908953993414451 : True := .intro
theorem tw13158914375032721791 : True := .intro
theorem tw308757335653738888 : True := .intro
theorem tw295795237172123936 : True := .intro
theorem tw9359880441376887146 : True := .intro
theorem tw11131911739986480470 : True := .intro
theorem tw18310161071301509819 : True := .intro
theorem tw10122716651833732742 : True := .intro
theorem tw10358546072286806725 : True := .intro
theorem tw15982555916017844073 : True := .intro
theorem tw4191366090668767137 : True := .intro
theorem tw11533242468759811768 : True := .intro
theorem tw4262504057298675567 : True := .intro
theorem tw2576470358727011865 : True := .intro
theorem tw9369199943973625186 : True := .intro
theorem tw3407453785623906504 : True := .intro
theorem tw9789913514900954081 : True := .intro
theorem tw1567690670901207840 : True := .intro
theorem tw2689173068097367922 : True := .intro
theorem tw7389550015318175248 : True := .intro
theorem tw13022515985737889126 : True := .intro
theorem tw10295062812779974411 : True := .intro
theorem tw12542306287877916490 : True := .intro
theorem tw8945681345423502646 : True := .intro
theorem tw228277611499384748 : True := .intro
theorem tw9044409996324587487 : True := .intro
theorem tw16461213848060957888 : True := .intro
theorem tw5209621045712673937 : True := .intro
theorem tw11384097518704822304 : True := .intro
theorem tw18006635271414867412 : True := .intro
theorem tw16194099784336279242 : True := .intro
theorem tw17959950683740755309 : True := .intro
theorem tw8474490554310347033 : True := .intro
theorem tw8778794101968189132 : True := .intro
theorem tw11378328016758172186 : True := .intro
theorem tw16447513616334376806 : True := .intro
theorem tw485071268564473510 : True := .intro
theorem tw6333357033046057125 : True := .intro
theorem tw7784994471999967807 : True := .intro
theorem tw11719685832192287483 : True := .intro
theorem tw17186634116000687405 : True := .intro
theorem tw341542332738831539 : True := .intro
theorem tw6897030231407243437 : True := .intro
theorem tw8439488776519027049 : True := .intro
theorem tw13642418278960682166 : True := .intro
theorem tw1493118565862967767 : True := .intro
theorem tw14982440871624312282 : True := .intro
theorem tw2081467882337263023 : True := .intro
theorem tw11994960452488974425 : True := .intro
theorem tw12272766050002057996 : True := .intro
theorem tw14612626791874113096 : True := .intro
theorem tw14423535003628621061 : True := .intro
theorem tw18109314316529822775 : True := .intro
theorem tw8217051409921109842 : True := .intro
theorem tw16282135324012724820 : True := .intro
theorem tw17984051083891608982 : True := .intro
theorem tw4810903325071557122 : True := .intro
theorem tw7477853564162012785 : True := .intro
theorem tw16627983692718534715 : True := .intro
theorem tw8103863801999624973 : True := .intro
theorem tw7021324956621674737 : True := .intro
theorem tw2687682160325927754 : True := .intro
theorem tw2681298655670993768 : True := .intro
theorem tw13527743989553916653 : True := .intro
theorem tw12772850973081900596 : True := .intro
theorem tw12640312981390788899 : True := .intro
theorem tw5282496481332523404 : True := .intro
theorem tw7862083849362233184 : True := .intro
theorem tw14956355294640837597 : True := .intro
theorem tw6041444478823710881 : True := .intro
theorem tw7555469357543148393 : True := .intro
theorem tw13856413009311597499 : True := .intro
theorem tw17088702343162374354 : True := .intro
theorem tw10492034737955129532 : True := .intro
theorem tw7791392626348559470 : True := .intro
theorem tw17208282129512611308 : True := .intro
theorem tw13571838563246318245 : True := .intro
theorem tw1573831569002800443 : True := .intro
theorem tw14596403177238516883 : True := .intro
theorem tw9596128378330092703 : True := .intro
theorem tw5387908675973868953 : True := .intro
theorem tw1620351138669456945 : True := .intro
theorem tw14535215108812874409 : True := .intro
theorem tw8013711468102398472 : True := .intro
theorem tw3711801577515136852 : True := .intro
theorem tw164210554175573385 : True := .intro
theorem tw13161779616460801592 : True := .intro
theorem tw17625155448043746910 : True := .intro
theorem tw8385474045288691736 : True := .intro
theorem tw16337130079392217722 : True := .intro
theorem tw17008344553923986866 : True := .intro
theorem tw14371289932827151654 : True := .intro
theorem tw4613959907336617477 : True := .intro
theorem tw14966679036152021989 : True := .intro
theorem tw1534948466684705282 : True := .intro
theorem tw7857722509221331698 : True := .intro
theorem tw5369421943790541084 : True := .intro
theorem tw5595359725220111012 : True := .intro
theorem tw7511553193499937721 : True := .intro
theorem tw12616789572047306271 : True := .intro
theorem tw939212779141624752 : True := .intro
theorem tw6440788152617951727 : True := .intro
theorem tw4204947325078290260 : True := .intro
theorem tw17977638543900808320 : True := .intro
theorem tw4317410772734403541 : True := .intro
theorem tw17930863987412667985 : True := .intro
theorem tw5212330260848914253 : True := .intro
theorem tw15061463040996828979 : True := .intro
theorem tw14821622489979428220 : True := .intro
theorem tw436684403066086307 : True := .intro
theorem tw13010540793672931302 : True := .intro
theorem tw6228917164398154490 : True := .intro
theorem tw17771245544812903361 : True := .intro
theorem tw4431676294053558361 : True := .intro
theorem tw9436441980690277523 : True := .intro
theorem tw10333133771865532971 : True := .intro
theorem tw12442139437515875318 : True := .intro
theorem tw2609295408147811147 : True := .intro
theorem tw13117445802747206531 : True := .intro
theorem tw15327054591378059122 : True := .intro
theorem tw16335432887110521285 : True := .intro
theorem tw10025449310440172625 : True := .intro
theorem tw12922797564218309503 : True := .intro
theorem tw7892265694111262931 : True := .intro
theorem tw4734291856810876704 : True := .intro
theorem tw1584816560890362506 : True := .intro
theorem tw5198728383304823685 : True := .intro
theorem tw10736765972572055486 : True := .intro
theorem tw14870639982310054971 : True := .intro
theorem tw4466110045019501804 : True := .intro
theorem tw15529982471453006768 : True := .intro
theorem tw6786337274551219629 : True := .intro
theorem tw8703112069072058904 : True := .intro
theorem tw3756170754973423680 : True := .intro
theorem tw17745112106745467490 : True := .intro
theorem tw8600312616811308051 : True := .intro
theorem tw7385234213765014849 : True := .intro
theorem tw5368580338409057864 : True := .intro
theorem tw11365529617688113348 : True := .intro
theorem tw15184209899497042882 : True := .intro
theorem tw5266509696531414919 : True := .intro
theorem tw541938431113291966 : True := .intro
theorem tw11327075496451568867 : True := .intro
theorem tw1603735236574402019 : True := .intro
theorem tw11824751822959169178 : True := .intro
theorem tw9133459676621691321 : True := .intro
theorem tw16259339801523519965 : True := .intro
theorem tw2388098834658198489 : True := .intro
theorem tw17740230138701686749 : True := .intro
theorem tw6840755858019239025 : True := .intro
theorem tw3271633778846367697 : True := .intro
theorem tw10891355621017776460 : True := .intro
theorem tw2774275942381061188 : True := .intro
theorem tw17886285865108041494 : True := .intro
theorem tw3685061823126088749 : True := .intro
theorem tw12325127473118180745 : True := .intro
theorem tw17515663566679010399 : True := .intro
theorem tw14841920408676834020 : True := .intro
theorem tw4054219192224775953 : True := .intro
theorem tw1762849655037412805 : True := .intro
theorem tw13312449767172929266 : True := .intro
theorem tw1932752509183815972 : True := .intro
theorem tw8705700604439808482 : True := .intro
theorem tw5529822159093417175 : True := .intro
theorem tw7183060942790787226 : True := .intro
theorem tw6842757960033930458 : True := .intro
theorem tw7613721963123240674 : True := .intro
theorem tw17824503921862282720 : True := .intro
theorem tw11976387498614183717 : True := .intro
theorem tw15548465411166205489 : True := .intro
theorem tw12863230489825279978 : True := .intro
theorem tw528430688305774032 : True := .intro
theorem tw1372049087459950499 : True := .intro
theorem tw5378950313419954946 : True := .intro
theorem tw13395400327111193902 : True := .intro
theorem tw8007595180051766531 : True := .intro
theorem tw754714668023325784 : True := .intro
theorem tw5602381009577290891 : True := .intro
theorem tw13120406232186247326 : True := .intro
theorem tw11604953668365684129 : True := .intro
theorem tw15275402741822493574 : True := .intro
theorem tw6589833471083964533 : True := .intro
theorem tw12587775526331659992 : True := .intro
theorem tw18213781553558364226 : True := .intro
theorem tw11708298826197887629 : True := .intro
theorem tw15022888056439384386 : True := .intro
theorem tw5060708477395829746 : True := .intro
theorem tw1428761372626574958 : True := .intro
theorem tw12589719647590063207 : True := .intro
theorem tw9645827236417543779 : True := .intro
theorem tw8478234077730730127 : True := .intro
theorem tw11186072897017986469 : True := .intro
theorem tw18443803078170574719 : True := .intro
theorem tw10375742005507909966 : True := .intro
theorem tw633541441236896135 : True := .intro
theorem tw17459480683139823956 : True := .intro
theorem tw14092976582252674155 : True := .intro
theorem tw10590890507886505953 : True := .intro
theorem tw6721267986554584097 : True := .intro
theorem tw16445998477683610819 : True := .intro
theorem tw17196478777617565467 : True := .intro
theorem tw5881052327212332141 : True := .intro
theorem tw3046426841741577153 : True := .intro
theorem tw17798431429180445244 : True := .intro
theorem tw12564992753588352447 : True := .intro
theorem tw724757596643724630 : True := .intro
theorem tw6104764953091425430 : True := .intro
theorem tw13571317904942066407 : True := .intro
theorem tw8402187281435186336 : True := .intro
theorem tw1466248901772369143 : True := .intro
theorem tw17497395966333553225 : True := .intro
theorem tw10677408004852799420 : True := .intro
theorem tw15674584776568314132 : True := .intro
theorem tw14384866501684879385 : True := .intro
theorem tw17497472006297461640 : True := .intro
theorem tw16129585516087747380 : True := .intro
theorem tw12506724293858174565 : True := .intro
theorem tw13010796390925308382 : True := .intro
theorem tw5231068364754459982 : True := .intro
theorem tw6018534223428375710 : True := .intro
theorem tw14281479738490610193 : True := .intro
theorem tw12708232074347221610 : True := .intro
theorem tw5007720828985452475 : True := .intro
theorem tw12123803797513372271 : True := .intro
theorem tw4425004854981218604 : True := .intro
theorem tw14068594035003356854 : True := .intro
theorem tw18245114414430939380 : True := .intro
theorem tw16960622925632043125 : True := .intro
theorem tw12849690547041238407 : True := .intro
theorem tw3458063610832360273 : True := .intro
theorem tw1646732997031128802 : True := .intro
theorem tw8012371038167243220 : True := .intro
theorem tw1732064384916016995 : True := .intro
theorem tw5262051786440836638 : True := .intro
theorem tw7989455486134295404 : True := .intro
theorem tw18239281563656548494 : True := .intro
theorem tw9489446288013033180 : True := .intro
theorem tw930957517068844761 : True := .intro
theorem tw2122187076541540499 : True := .intro
theorem tw4082244551513983177 : True := .intro
theorem tw15742194544425439604 : True := .intro
theorem tw16634692256635542868 : True := .intro
theorem tw10362036348030358996 : True := .intro
theorem tw6744849723663600257 : True := .intro
theorem tw4954534996889807238 : True := .intro
theorem tw13912827390458384965 : True := .intro
theorem tw16426005941190804429 : True := .intro
theorem tw4820821757614107615 : True := .intro
theorem tw11199753316176180373 : True := .intro
theorem tw9003663533468017891 : True := .intro
theorem tw5614184801049066192 : True := .intro
theorem tw12035223462789969652 : True := .intro
theorem tw7946348014536275288 : True := .intro
theorem tw14451738393507100285 : True := .intro
theorem tw1678375280985386054 : True := .intro
theorem tw1137247785775435872 : True := .intro
theorem tw14348210086181280193 : True := .intro
theorem tw8681683446994635072 : True := .intro
theorem tw4921636455686184479 : True := .intro
theorem tw2804335633943911929 : True := .intro
theorem tw3779039427421469948 : True := .intro
theorem tw16633712991597752527 : True := .intro
theorem tw15164963549262315479 : True := .intro
theorem tw13681527685394062605 : True := .intro
theorem tw7000730902959878920 : True := .intro
theorem tw679429919158604684 : True := .intro
theorem tw12707963974349319240 : True := .intro
theorem tw14701517481691173400 : True := .intro
theorem tw9080700102507964461 : True := .intro
theorem tw16219100795005940126 : True := .intro
theorem tw9275582794655978636 : True := .intro
theorem tw17575986080929637648 : True := .intro
theorem tw5890867404681363127 : True := .intro
theorem tw1584365037436241359 : True := .intro
theorem tw6227940271132079904 : True := .intro
theorem tw17827098057245933218 : True := .intro
theorem tw6189926892947994615 : True := .intro
theorem tw3034940675114909233 : True := .intro
theorem tw5883289423126752298 : True := .intro
theorem tw9615773550357845811 : True := .intro
theorem tw3368524825146055467 : True := .intro
theorem tw10614320561501089710 : True := .intro
theorem tw7526059802785307635 : True := .intro
theorem tw7368297191836322184 : True := .intro
theorem tw11510522274221219057 : True := .intro
theorem tw9742913928878724589 : True := .intro
theorem tw14364854223561652530 : True := .intro
theorem tw14036661530080006300 : True := .intro
theorem tw8524487781529726674 : True := .intro
theorem tw2299488025151565264 : True := .intro
theorem tw9515530273023296793 : True := .intro
theorem tw15456743811538830370 : True := .intro
theorem tw16279537755863336217 : True := .intro
theorem tw15504300878396355614 : True := .intro
theorem tw321421291050566040 : True := .intro
theorem tw11368254905456132261 : True := .intro
theorem tw3118046598282136676 : True := .intro
theorem tw7007154745977619631 : True := .intro
theorem tw8463845304629164018 : True := .intro
theorem tw13288691410875364780 : True := .intro
theorem tw8261764302448566201 : True := .intro
theorem tw3500575333360466439 : True := .intro
theorem tw311329202309326884 : True := .intro
theorem tw3750168338265999646 : True := .intro
theorem tw82248846808127347 : True := .intro
theorem tw8972071418289656672 : True := .intro
theorem tw2416657992492483469 : True := .intro
theorem tw8416741160832240964 : True := .intro
theorem tw2586823588790887936 : True := .intro
theorem tw7062131124078602360 : True := .intro
theorem tw212032106341348401 : True := .intro
theorem tw5224319405017483009 : True := .intro
theorem tw5566876559335137292 : True := .intro
theorem tw400484804963858740 : True := .intro
theorem tw9399507497100518882 : True := .intro
theorem tw11199809276121998516 : True := .intro
theorem tw9719374803340921403 : True := .intro
theorem tw4803297669184611566 : True := .intro
theorem tw11771326906713365012 : True := .intro
theorem tw988164483534814386 : True := .intro
theorem tw5927757083794390017 : True := .intro
theorem tw6856112670850959358 : True := .intro
theorem tw2320505847195027139 : True := .intro
theorem tw4285031801550752442 : True := .intro
theorem tw1872016300127301735 : True := .intro
theorem tw10687142737172601918 : True := .intro
theorem tw16151233521121285704 : True := .intro
theorem tw12845207919242064936 : True := .intro
theorem tw2120601954065259246 : True := .intro
theorem tw1611496416434918709 : True := .intro
theorem tw8086887956953460650 : True := .intro
theorem tw9289030011053371796 : True := .intro
theorem tw18418539666764727592 : True := .intro
theorem tw5210555616030688898 : True := .intro
theorem tw12989752338135058650 : True := .intro
theorem tw864719049764407485 : True := .intro
theorem tw4540431474973398521 : True := .intro
theorem tw8248256760617218707 : True := .intro
theorem tw16750352447600809651 : True := .intro
theorem tw8947009842367229587 : True := .intro
theorem tw16517617484975189336 : True := .intro
theorem tw14084487083579703105 : True := .intro
theorem tw15781531661094220032 : True := .intro
theorem tw5675678456280514277 : True := .intro
theorem tw252217011644288800 : True := .intro
theorem tw12301188563044316872 : True := .intro
theorem tw9551544653264978366 : True := .intro
theorem tw8347151653458164312 : True := .intro
theorem tw9488510520711042826 : True := .intro
theorem tw9367051181312589359 : True := .intro
theorem tw7340174160556221462 : True := .intro
theorem tw4726632580102511622 : True := .intro
theorem tw4013787340298363068 : True := .intro
theorem tw14249819030565782495 : True := .intro
theorem tw16863275291206432064 : True := .intro
theorem tw711507546475496766 : True := .intro
theorem tw13238101242090871003 : True := .intro
theorem tw2666201983536682665 : True := .intro
theorem tw13763876983462151900 : True := .intro
theorem tw4298903811168041538 : True := .intro
theorem tw51645332688395951 : True := .intro
theorem tw17184750648428689055 : True := .intro
theorem tw14787209516624344164 : True := .intro
theorem tw3961573796014463450 : True := .intro
theorem tw772862528688814302 : True := .intro
theorem tw16556445216641595347 : True := .intro
theorem tw3074946030465197456 : True := .intro
theorem tw5270410942564366961 : True := .intro
theorem tw9896300995341817150 : True := .intro
theorem tw13919887668527908061 : True := .intro
theorem tw17048806318435186488 : True := .intro
theorem tw1709595899098403818 : True := .intro
theorem tw645290504191293942 : True := .intro
theorem tw14467554061648525183 : True := .intro
theorem tw3250650661242104037 : True := .intro
theorem tw13727157833947278379 : True := .intro
theorem tw5517554212528318798 : True := .intro
theorem tw10471605878343066459 : True := .intro
theorem tw16681479348827395909 : True := .intro
theorem tw10081036225805793665 : True := .intro
theorem tw5119698127314118787 : True := .intro
theorem tw2252595200069582953 : True := .intro
theorem tw8330008771353099833 : True := .intro
theorem tw7781596783709600875 : True := .intro
theorem tw10876386656711475308 : True := .intro
theorem tw16148937641803809566 : True := .intro
theorem tw15374471552527899949 : True := .intro
theorem tw152796498054685384 : True := .intro
theorem tw16784661979984302929 : True := .intro
theorem tw3717470863919364037 : True := .intro
theorem tw16632367515583806777 : True := .intro
theorem tw8543078350033446636 : True := .intro
theorem tw8371959408102832112 : True := .intro
theorem tw1776185223150972124 : True := .intro
theorem tw4427096598768290574 : True := .intro
theorem tw17276094382704862804 : True := .intro
theorem tw17630447073748015575 : True := .intro
theorem tw3126897581248787718 : True := .intro
theorem tw12086160331016388745 : True := .intro
theorem tw4266929813909316995 : True := .intro
theorem tw3187038276726520888 : True := .intro
theorem tw6763316464897433404 : True := .intro
theorem tw12984009599129257492 : True := .intro
theorem tw17642125254646940724 : True := .intro
theorem tw12187242379232795148 : True := .intro
theorem tw12753577254647474046 : True := .intro
theorem tw3248264199185991475 : True := .intro
theorem tw9111070993192715265 : True := .intro
theorem tw1099328799662239080 : True := .intro
theorem tw14418272894744061103 : True := .intro
theorem tw12113915757143434846 : True := .intro
theorem tw11874082193873306113 : True := .intro
theorem tw12854830610643465813 : True := .intro
theorem tw3611405800284662496 : True := .intro
theorem tw10090965536795915927 : True := .intro
theorem tw3444905396558272361 : True := .intro
theorem tw10671325202003160938 : True := .intro
theorem tw10803862640937307838 : True := .intro
theorem tw2890711072958094023 : True := .intro
theorem tw9738071515329941927 : True := .intro
theorem tw2937256537179616883 : True := .intro
theorem tw12203207362862554575 : True := .intro
theorem tw10720651239412731462 : True := .intro
theorem tw13734007508698570026 : True := .intro
theorem tw3619010081646753717 : True := .intro
theorem tw16574156245283490976 : True := .intro
theorem tw7134680992818045904 : True := .intro
theorem tw4074977344363656311 : True := .intro
theorem tw11255951215372657065 : True := .intro
theorem tw2665431356581155749 : True := .intro
theorem tw3776474556498408335 : True := .intro
theorem tw9695277503343845698 : True := .intro
theorem tw4376195934922514753 : True := .intro
theorem tw14322620690394793499 : True := .intro
theorem tw1123575260013104369 : True := .intro
theorem tw7128141153745207779 : True := .intro
theorem tw4716565825613292143 : True := .intro
theorem tw11543575708174516581 : True := .intro
theorem tw2505120079292549480 : True := .intro
theorem tw13302883511417335005 : True := .intro
theorem tw16083513953534733510 : True := .intro
theorem tw12705752396832656432 : True := .intro
theorem tw17488358167478824425 : True := .intro
theorem tw8716698994163972352 : True := .intro
theorem tw5391834951544550049 : True := .intro
theorem tw9264752952416384115 : True := .intro
theorem tw12902784511719034267 : True := .intro
theorem tw12142027894250055211 : True := .intro
theorem tw11481709676134587604 : True := .intro
theorem tw5036060383169495978 : True := .intro
theorem tw2214301320317060265 : True := .intro
theorem tw9199603744639787695 : True := .intro
theorem tw10225835866659822988 : True := .intro
theorem tw13760738363300546630 : True := .intro
theorem tw12191962466665921858 : True := .intro
theorem tw15631119301188138862 : True := .intro
theorem tw688577548296137329 : True := .intro
theorem tw257523379200243285 : True := .intro
theorem tw16007543678406520828 : True := .intro
theorem tw17578079910989342456 : True := .intro
theorem tw4544910700266892820 : True := .intro
theorem tw7186154869932309279 : True := .intro
theorem tw17254045557532802922 : True := .intro
theorem tw4823336628652556917 : True := .intro
theorem tw1805710814297277828 : True := .intro
theorem tw11272597246482690291 : True := .intro
theorem tw10521176277502705622 : True := .intro
theorem tw4077713958235948205 : True := .intro
theorem tw9349172873491554067 : True := .intro
theorem tw8951361596095230001 : True := .intro
theorem tw15062641218265453546 : True := .intro
theorem tw16865696039998318372 : True := .intro
theorem tw5482345006986637408 : True := .intro
theorem tw12956906749895835557 : True := .intro
theorem tw1557551684574561637 : True := .intro
theorem tw15776927337348186049 : True := .intro
theorem tw14870286976344684408 : True := .intro
theorem tw4104069035963494445 : True := .intro
theorem tw9810765853286927660 : True := .intro
theorem tw624070485587795070 : True := .intro
theorem tw12715343851519598968 : True := .intro
theorem tw3995244409360193225 : True := .intro
theorem tw8056691041244044052 : True := .intro
theorem tw377721483185445358 : True := .intro
theorem tw1167031723845718828 : True := .intro
theorem tw10886351633248034 : True := .intro
theorem tw3329748515155278120 : True := .intro
theorem tw9278245981874039796 : True := .intro
theorem tw4803625927058365529 : True := .intro
theorem tw15534797023840808215 : True := .intro
theorem tw7643383463064877982 : True := .intro
theorem tw11766025546995938698 : True := .intro
theorem tw4698236396366758528 : True := .intro
theorem tw7498739907638221194 : True := .intro
theorem tw7155109398444163344 : True := .intro
theorem tw1303645586376499659 : True := .intro
theorem tw12436558295808759584 : True := .intro
theorem tw18052041779044231899 : True := .intro
theorem tw7001701400377487857 : True := .intro
theorem tw8176040519410111676 : True := .intro
theorem tw627572471800840806 : True := .intro
theorem tw18434034707105869664 : True := .intro
theorem tw3838479296171842873 : True := .intro
theorem tw5514107987926103274 : True := .intro
theorem tw8677044425932438876 : True := .intro
theorem tw5617164759964093871 : True := .intro
theorem tw7363215188271091260 : True := .intro
theorem tw17520109658903467897 : True := .intro
theorem tw2400685750895129905 : True := .intro
theorem tw6156195969473157286 : True := .intro
theorem tw3867435190081948537 : True := .intro
theorem tw1283615747460010923 : True := .intro
theorem tw17595659091666861384 : True := .intro
theorem tw3251788589467211042 : True := .intro
theorem tw13725077410900549811 : True := .intro
theorem tw13182424306068174871 : True := .intro
theorem tw7602890589185716621 : True := .intro
theorem tw4644173529078136223 : True := .intro
theorem tw2836373556817319337 : True := .intro
theorem tw13041577134056870903 : True := .intro
theorem tw11210267971543690015 : True := .intro
theorem tw13087364572383170633 : True := .intro
theorem tw717962450610903745 : True := .intro
theorem tw15848667909655942995 : True := .intro
theorem tw3834305861360935505 : True := .intro
theorem tw8579944422943036116 : True := .intro
theorem tw9021274502082996195 : True := .intro
theorem tw5345324459178907359 : True := .intro
theorem tw16845974365832850517 : True := .intro
theorem tw7289858184145712334 : True := .intro
theorem tw1042209175333634409 : True := .intro
theorem tw13211633284275610957 : True := .intro
theorem tw12098223376188354816 : True := .intro
theorem tw4382408651618943918 : True := .intro
theorem tw8602010374520373523 : True := .intro
theorem tw10863966222745413922 : True := .intro
theorem tw4103226951174116080 : True := .intro
theorem tw10583746682149231360 : True := .intro
theorem tw14366402908446133608 : True := .intro
theorem tw7228091006716662643 : True := .intro
theorem tw9881382785434687053 : True := .intro
theorem tw2367751662810047928 : True := .intro
theorem tw10119366699246230809 : True := .intro
theorem tw17283946024728063814 : True := .intro
theorem tw16357174161603648941 : True := .intro
theorem tw10871337052140775806 : True := .intro
theorem tw7526314636233144684 : True := .intro
theorem tw3129951550634369919 : True := .intro
theorem tw9743213115349632735 : True := .intro
theorem tw8496985607310912306 : True := .intro
theorem tw4504424859631182498 : True := .intro
theorem tw11321808316903060737 : True := .intro
theorem tw1383393908206203837 : True := .intro
theorem tw1900611019009494545 : True := .intro
theorem tw10431094507306926703 : True := .intro
theorem tw3464791752795234085 : True := .intro
theorem tw2442015664019311451 : True := .intro
theorem tw2760572927205370540 : True := .intro
theorem tw10814060545709461805 : True := .intro
theorem tw16829703612755172306 : True := .intro
theorem tw3354341918715066024 : True := .intro
theorem tw6114938579366008514 : True := .intro
theorem tw5360270302324696131 : True := .intro
theorem tw3258827965265424497 : True := .intro
theorem tw4940676049096894919 : True := .intro
theorem tw1504845214314755244 : True := .intro
theorem tw13185776523841023563 : True := .intro
theorem tw2704496767521820880 : True := .intro
theorem tw5330620302250718168 : True := .intro
theorem tw12034343225977876694 : True := .intro
theorem tw15688268091373981702 : True := .intro
theorem tw4084741506946566237 : True := .intro
theorem tw9315140350285336575 : True := .intro
theorem tw12762726083921803091 : True := .intro
theorem tw2355716346565290048 : True := .intro
theorem tw17488903459455173324 : True := .intro
theorem tw3614375655629546913 : True := .intro
theorem tw161140315630105559 : True := .intro
theorem tw11465386447028186913 : True := .intro
theorem tw5950812251371828580 : True := .intro
theorem tw9611321733865718997 : True := .intro
theorem tw6852419080960363631 : True := .intro
theorem tw4907732119854361722 : True := .intro
theorem tw5804352544839570061 : True := .intro
theorem tw1116178139939226243 : True := .intro
theorem tw16077992237738121376 : True := .intro
theorem tw4611101581435942430 : True := .intro
theorem tw4253657889844645557 : True := .intro
theorem tw13842505486160600797 : True := .intro
theorem tw16189761082678228306 : True := .intro
theorem tw7866660875103449457 : True := .intro
theorem tw7021433126316035388 : True := .intro
theorem tw3082898898945302101 : True := .intro
theorem tw2559224420427969541 : True := .intro
theorem tw4864388938946833266 : True := .intro
theorem tw13362712974839187895 : True := .intro
theorem tw3917869142023851941 : True := .intro
theorem tw15442880087279834789 : True := .intro
theorem tw5565557186927269092 : True := .intro
theorem tw9589376161033731927 : True := .intro
theorem tw14322310227069672912 : True := .intro
theorem tw9584197975010466303 : True := .intro
theorem tw2293369253735080887 : True := .intro
theorem tw3509223822424810784 : True := .intro
theorem tw519927512150319558 : True := .intro
theorem tw7382833619768203839 : True := .intro
theorem tw250860141158925869 : True := .intro
theorem tw1830925671303379632 : True := .intro
theorem tw5540731335231749395 : True := .intro
theorem tw2445063303920930854 : True := .intro
theorem tw209616740231365095 : True := .intro
theorem tw4843951478919354154 : True := .intro
theorem tw5866833574876824361 : True := .intro
theorem tw6857691701300386867 : True := .intro
theorem tw17514623589530589059 : True := .intro
theorem tw15441808367462288487 : True := .intro
theorem tw15583877445774982584 : True := .intro
theorem tw2846257981206312903 : True := .intro
theorem tw5093115927561528480 : True := .intro
theorem tw15839202253512785756 : True := .intro
theorem tw9613558284226850600 : True := .intro
theorem tw14911002994681544592 : True := .intro
theorem tw18118946808104498280 : True := .intro
theorem tw10203815836416174036 : True := .intro
theorem tw14701735551138923053 : True := .intro
theorem tw7335281160909380986 : True := .intro
theorem tw6101361917688873995 : True := .intro
theorem tw2406761281493597931 : True := .intro
theorem tw13014123944067224347 : True := .intro
theorem tw18180658452539110856 : True := .intro
theorem tw16197152883483111809 : True := .intro
theorem tw12876389941627760991 : True := .intro
theorem tw3607307416845841305 : True := .intro
theorem tw10592999581015829790 : True := .intro
theorem tw16542139699939077634 : True := .intro
theorem tw18027375949108702446 : True := .intro
theorem tw6898702234970873998 : True := .intro
theorem tw1484224123522673885 : True := .intro
theorem tw3485854659659655481 : True := .intro
theorem tw16967162740801899616 : True := .intro
theorem tw14100284372247650379 : True := .intro
theorem tw13063789994587096018 : True := .intro
theorem tw18409138825071258631 : True := .intro
theorem tw10560060001443918563 : True := .intro
theorem tw5733853874579972482 : True := .intro
theorem tw15513261952438525895 : True := .intro
theorem tw12535634429829198899 : True := .intro
theorem tw3429441814953208546 : True := .intro
theorem tw14757153507455835674 : True := .intro
theorem tw13466430389926485905 : True := .intro
theorem tw17384616817324576106 : True := .intro
theorem tw3804305274023837766 : True := .intro
theorem tw15639113415525657597 : True := .intro
theorem tw2466596225126980142 : True := .intro
theorem tw1672196884288383351 : True := .intro
theorem tw540677202086752571 : True := .intro
theorem tw6878002210708501316 : True := .intro
theorem tw14321172443854011833 : True := .intro
theorem tw13978489988702046119 : True := .intro
theorem tw5383602706172408875 : True := .intro
theorem tw8846314458672459726 : True := .intro
theorem tw6262150786594655448 : True := .intro
theorem tw11373392486565422551 : True := .intro
theorem tw15783250025118819471 : True := .intro
theorem tw8453485712459873798 : True := .intro
theorem tw7830810861014324259 : True := .intro
theorem tw7673149362997041674 : True := .intro
theorem tw13996023921342852830 : True := .intro
theorem tw10917801415680995339 : True := .intro
theorem tw15175048569840488097 : True := .intro
theorem tw3597152347735066157 : True := .intro
theorem tw4809535119749395219 : True := .intro
theorem tw14434963264141263959 : True := .intro
theorem tw1089281110689333511 : True := .intro
theorem tw18304884459381475827 : True := .intro
theorem tw7113589759559580 : True := .intro
theorem tw10476209203951538415 : True := .intro
theorem tw337732051637698955 : True := .intro
theorem tw15742690411973083180 : True := .intro
theorem tw3221079189275416830 : True := .intro
theorem tw15387948987181722784 : True := .intro
theorem tw12378967911538886304 : True := .intro
theorem tw15749895473460535286 : True := .intro
theorem tw13998220066136889853 : True := .intro
theorem tw13406465179726281071 : True := .intro
theorem tw10319530368727048958 : True := .intro
theorem tw3929106587225187481 : True := .intro
theorem tw17900644972850140644 : True := .intro
theorem tw13119591333689854789 : True := .intro
theorem tw7103147685486914350 : True := .intro
theorem tw5335985914862752311 : True := .intro
theorem tw3699978156107270135 : True := .intro
theorem tw1629689060461768877 : True := .intro
theorem tw2067179432985535471 : True := .intro
theorem tw2192044898267567967 : True := .intro
theorem tw2407557105546527700 : True := .intro
theorem tw16214419059186060046 : True := .intro
theorem tw16645843352659275326 : True := .intro
theorem tw1424705342564133923 : True := .intro
theorem tw10636994636313762386 : True := .intro
theorem tw6712044341039013155 : True := .intro
theorem tw727577453460375000 : True := .intro
theorem tw9939884582187368583 : True := .intro
theorem tw13334003895668132594 : True := .intro
theorem tw15358748212543673881 : True := .intro
theorem tw17822033472872201738 : True := .intro
theorem tw9795717400795044038 : True := .intro
theorem tw5830122339279379648 : True := .intro
theorem tw11738023820200336166 : True := .intro
theorem tw3810920227332119016 : True := .intro
theorem tw18403309887180588332 : True := .intro
theorem tw6365600230760786903 : True := .intro
theorem tw1107136825385538884 : True := .intro
theorem tw2594975524710588480 : True := .intro
theorem tw3355810875944843655 : True := .intro
theorem tw5358590869202438809 : True := .intro
theorem tw17694298979266856036 : True := .intro
theorem tw2160527476851537127 : True := .intro
theorem tw16879191354839478552 : True := .intro
theorem tw1319602187041327204 : True := .intro
theorem tw15886119000766152075 : True := .intro
theorem tw14320761772390003811 : True := .intro
theorem tw9578817472162841354 : True := .intro
theorem tw17582070679333915333 : True := .intro
theorem tw17580687226171014491 : True := .intro
theorem tw3137552169726382410 : True := .intro
theorem tw904276591240019584 : True := .intro
theorem tw6880147253508502069 : True := .intro
theorem tw5774941068331288503 : True := .intro
theorem tw11377165600150711906 : True := .intro
theorem tw1831231104366698344 : True := .intro
theorem tw11541415973208588135 : True := .intro
theorem tw893577120614177391 : True := .intro
theorem tw1180398362963242840 : True := .intro
theorem tw12492989011278020073 : True := .intro
theorem tw12984808949268623964 : True := .intro
theorem tw6033998227239575042 : True := .intro
theorem tw8694693568148303952 : True := .intro
theorem tw17841002773546411260 : True := .intro
theorem tw11312186226883403918 : True := .intro
theorem tw5660064887671992208 : True := .intro
theorem tw5251245513051193790 : True := .intro
theorem tw8328749386327201386 : True := .intro
theorem tw2885697683562367049 : True := .intro
theorem tw17462946856631422119 : True := .intro
theorem tw11318424206668487205 : True := .intro
theorem tw15726793649035363149 : True := .intro
theorem tw13585507819058763282 : True := .intro
theorem tw17069818242987380440 : True := .intro
theorem tw18359056576480932317 : True := .intro
theorem tw3507815831222162206 : True := .intro
theorem tw802565839568891288 : True := .intro
theorem tw1634462918664449609 : True := .intro
theorem tw11060052791053732867 : True := .intro
theorem tw16811902599772332111 : True := .intro
theorem tw16970460267379889915 : True := .intro
theorem tw17184513155064797527 : True := .intro
theorem tw3036491792858808730 : True := .intro
theorem tw2035225650173032566 : True := .intro
theorem tw18392681554974686991 : True := .intro
theorem tw7849753684425305620 : True := .intro
theorem tw9684806396040825482 : True := .intro
theorem tw10535195287189023728 : True := .intro
theorem tw11603329757306276950 : True := .intro
theorem tw11059152474249552626 : True := .intro
theorem tw4897332577864700206 : True := .intro
theorem tw2038601257478936033 : True := .intro
theorem tw4146041054445158869 : True := .intro
theorem tw16653983596594462090 : True := .intro
theorem tw16526881101404995281 : True := .intro
theorem tw15828373245944318182 : True := .intro
theorem tw6512709380570227304 : True := .intro
theorem tw14360627459838109071 : True := .intro
theorem tw16794163187923636168 : True := .intro
theorem tw15399890547742750399 : True := .intro
theorem tw2517242535113263022 : True := .intro
theorem tw15745675682525820907 : True := .intro
theorem tw14847422005818211928 : True := .intro
theorem tw7766066961250037469 : True := .intro
theorem tw5813649073930907329 : True := .intro
theorem tw18108259569177415585 : True := .intro
theorem tw8464010376518102108 : True := .intro
theorem tw695062569625902561 : True := .intro
theorem tw261095601691525029 : True := .intro
theorem tw11084368119820435945 : True := .intro
theorem tw11298988088391338887 : True := .intro
theorem tw14912054846801009098 : True := .intro
theorem tw12204436015748911074 : True := .intro
theorem tw9263607359892857341 : True := .intro
theorem tw7294124109468831356 : True := .intro
theorem tw443980258054008933 : True := .intro
theorem tw15809349768595672102 : True := .intro
theorem tw2148576267402573660 : True := .intro
theorem tw4337539919063399504 : True := .intro
theorem tw5243354721083956642 : True := .intro
theorem tw13329313486668250432 : True := .intro
theorem tw1122873295798328798 : True := .intro
theorem tw15381689890183207836 : True := .intro
theorem tw17632821435992626682 : True := .intro
theorem tw9099256458320175547 : True := .intro
theorem tw511382438221752551 : True := .intro
theorem tw4441263320675647893 : True := .intro
theorem tw14138431019448657327 : True := .intro
theorem tw12135339706344205298 : True := .intro
theorem tw11762887378087223991 : True := .intro
theorem tw9210136951742285411 : True := .intro
theorem tw11662675747784185743 : True := .intro
theorem tw6057928679637031906 : True := .intro
theorem tw13374391654110465051 : True := .intro
theorem tw17514762553385966776 : True := .intro
theorem tw10853759522565321392 : True := .intro
theorem tw12360134923483847369 : True := .intro
theorem tw5303451883165123690 : True := .intro
theorem tw9752147168992140991 : True := .intro
theorem tw6194152733810340121 : True := .intro
theorem tw9448035451494312341 : True := .intro
theorem tw2519962545357716479 : True := .intro
theorem tw3786995389559205014 : True := .intro
theorem tw12634639226975914597 : True := .intro
theorem tw10193168102139795154 : True := .intro
theorem tw16826963132480114810 : True := .intro
theorem tw9873616707435061322 : True := .intro
theorem tw13945950778483793619 : True := .intro
theorem tw2363086613900853052 : True := .intro
theorem tw1231778229189472482 : True := .intro
theorem tw18060872083284108152 : True := .intro
theorem tw2887914260133415264 : True := .intro
theorem tw1612924648842658137 : True := .intro
theorem tw10094629234696574835 : True := .intro
theorem tw10930384510198738552 : True := .intro
theorem tw6472938456151735611 : True := .intro
theorem tw6602992436626263976 : True := .intro
theorem tw10513777701945816734 : True := .intro
theorem tw659355871305492290 : True := .intro
theorem tw7295194192493308662 : True := .intro
theorem tw15840303622208021155 : True := .intro
theorem tw18318465948627536890 : True := .intro
theorem tw4516317629169386956 : True := .intro
theorem tw830872235060354366 : True := .intro
theorem tw17041489072375005213 : True := .intro
theorem tw4500993763356716066 : True := .intro
theorem tw1494882483045666051 : True := .intro
theorem tw2163182127298391928 : True := .intro
theorem tw14001450996005232308 : True := .intro
theorem tw8635832428864700116 : True := .intro
theorem tw16314316278029632688 : True := .intro
theorem tw4103803345681475690 : True := .intro
theorem tw9681297807658818983 : True := .intro
theorem tw7894021483960093514 : True := .intro
theorem tw7755404678977313498 : True := .intro
theorem tw2135938303976203061 : True := .intro
theorem tw5142228837252415163 : True := .intro
theorem tw2857478247128193195 : True := .intro
theorem tw2268966467943550149 : True := .intro
theorem tw10743461207251730804 : True := .intro
theorem tw2776829095301351134 : True := .intro
theorem tw6748761449578338769 : True := .intro
theorem tw17736074225818161179 : True := .intro
theorem tw9375652959075347616 : True := .intro
theorem tw13320553540654291455 : True := .intro
theorem tw3403519140248548890 : True := .intro
theorem tw18437414328367404409 : True := .intro
theorem tw17013664037398953970 : True := .intro
theorem tw18268807470893842226 : True := .intro
theorem tw8049272048477154070 : True := .intro
theorem tw16094165181062738623 : True := .intro
theorem tw12914239201911004605 : True := .intro
theorem tw3861745464663189260 : True := .intro
theorem tw14544965667701589188 : True := .intro
theorem tw8871210562585494652 : True := .intro
theorem tw18130809066533475402 : True := .intro
theorem tw11211123456543944139 : True := .intro
theorem tw15125415151265022843 : True := .intro
theorem tw4946806774261637447 : True := .intro
theorem tw15928002728330251082 : True := .intro
theorem tw7373562661282700241 : True := .intro
theorem tw15344494199679857746 : True := .intro
theorem tw16146700339511988936 : True := .intro
theorem tw5022973906007932824 : True := .intro
theorem tw2374025182976455338 : True := .intro
theorem tw13090039320108211726 : True := .intro
theorem tw10126807017992561238 : True := .intro
theorem tw8803718566757250333 : True := .intro
theorem tw1547553976263651225 : True := .intro
theorem tw9485566436090512602 : True := .intro
theorem tw17003809224934579263 : True := .intro
theorem tw15512053409877516655 : True := .intro
theorem tw11950120914687778490 : True := .intro
theorem tw14265925029844123213 : True := .intro
theorem tw9509959176559909368 : True := .intro
theorem tw13637479215688134610 : True := .intro
theorem tw18216616760460348433 : True := .intro
theorem tw3237510624864489206 : True := .intro
theorem tw8489803267331721063 : True := .intro
theorem tw15933343743683458704 : True := .intro
theorem tw17097853015404016251 : True := .intro
theorem tw15939980630733214433 : True := .intro
theorem tw3823023482570296541 : True := .intro
theorem tw3885062530689870360 : True := .intro
theorem tw18102391552145433602 : True := .intro
theorem tw10657939084113247131 : True := .intro
theorem tw12757384401863252642 : True := .intro
theorem tw4048553177585077043 : True := .intro
theorem tw4888527971434177755 : True := .intro
theorem tw3455253370549924745 : True := .intro
theorem tw7664049008379832395 : True := .intro
theorem tw7601029965436688296 : True := .intro
theorem tw3947836634728948915 : True := .intro
theorem tw12442391486193632169 : True := .intro
theorem tw6150933222260399650 : True := .intro
theorem tw14474524300342690424 : True := .intro
theorem tw1425356386437584038 : True := .intro
theorem tw5503640412069641332 : True := .intro
theorem tw9851642233286196491 : True := .intro
theorem tw15479207453475914219 : True := .intro
theorem tw17346143314723924536 : True := .intro
theorem tw17542987891416514155 : True := .intro
theorem tw16578428198318459813 : True := .intro
theorem tw17648133617517214526 : True := .intro
theorem tw7658745019292161908 : True := .intro
theorem tw13224491805416192918 : True := .intro
theorem tw2335925952905128512 : True := .intro
theorem tw11844692273421030036 : True := .intro
theorem tw4775584329667268548 : True := .intro
theorem tw8104556948910399937 : True := .intro
theorem tw5976655766649781885 : True := .intro
theorem tw6355698684757962314 : True := .intro
theorem tw4901455811520927360 : True := .intro
theorem tw8202976629987557300 : True := .intro
theorem tw5993609376607845268 : True := .intro
theorem tw6426354082809938227 : True := .intro
theorem tw16426919278490593040 : True := .intro
theorem tw17966164970802285366 : True := .intro
theorem tw12932982596445984592 : True := .intro
theorem tw13703917224939969666 : True := .intro
theorem tw16519163117155683577 : True := .intro
theorem tw3940875978802823091 : True := .intro
theorem tw9523568311086762362 : True := .intro
theorem tw74508862957529282 : True := .intro
theorem tw10990769005726081312 : True := .intro
theorem tw9852146508960929632 : True := .intro
theorem tw21811727054624346 : True := .intro
theorem tw5433123494043156111 : True := .intro
theorem tw9519867410888745563 : True := .intro
theorem tw15628262985547489327 : True := .intro
theorem tw11606167109870009986 : True := .intro
theorem tw1587127352812713128 : True := .intro
theorem tw3977371117392880436 : True := .intro
theorem tw6980167584322500874 : True := .intro
theorem tw8225306481678899116 : True := .intro
theorem tw16030981615840486419 : True := .intro
theorem tw16645871678447983605 : True := .intro
theorem tw15758350076554342302 : True := .intro
theorem tw3528012908718542941 : True := .intro
theorem tw18319878954220305467 : True := .intro
theorem tw17737996795480786688 : True := .intro
theorem tw1579867652837752810 : True := .intro
theorem tw16037367457805766986 : True := .intro
theorem tw911028356346865039 : True := .intro
theorem tw13795871938993807974 : True := .intro
theorem tw12837695999253148307 : True := .intro
theorem tw17790072473361214060 : True := .intro
theorem tw2932133275632774744 : True := .intro
theorem tw15289782836496280563 : True := .intro
theorem tw17297974863553807921 : True := .intro
theorem tw15343918839806301756 : True := .intro
theorem tw7551721460017824818 : True := .intro
theorem tw11800680934096901391 : True := .intro
theorem tw15529884194666850983 : True := .intro
theorem tw3897168796010447233 : True := .intro
theorem tw16966648877006666475 : True := .intro
theorem tw9916682210438411830 : True := .intro
theorem tw8745410267818112985 : True := .intro
theorem tw12635908934901326429 : True := .intro
theorem tw9346312964850185882 : True := .intro
theorem tw2252391280699964080 : True := .intro
theorem tw12109619299258040325 : True := .intro
theorem tw9546883086943491708 : True := .intro
theorem tw8448609068115473431 : True := .intro
theorem tw13164274702477266113 : True := .intro
theorem tw15618817213064647260 : True := .intro
theorem tw12409274668121328280 : True := .intro
theorem tw4794582556938155024 : True := .intro
theorem tw7681197349972920490 : True := .intro
theorem tw10600966662375781025 : True := .intro
theorem tw1244967103877179542 : True := .intro
theorem tw7215874312900551215 : True := .intro
theorem tw3291275972124842804 : True := .intro
theorem tw15018528002182466891 : True := .intro
theorem tw16230827126887154151 : True := .intro
theorem tw17092980884687882388 : True := .intro
theorem tw3782265278451346837 : True := .intro
theorem tw14096764266073367864 : True := .intro
theorem tw448216223446793813 : True := .intro
theorem tw14524432226565102992 : True := .intro
theorem tw2172274801266453104 : True := .intro
theorem tw3240610407674957236 : True := .intro
theorem tw7630765931001858763 : True := .intro
theorem tw5102307698950188726 : True := .intro
theorem tw14651313066352289677 : True := .intro
theorem tw626170561202564025 : True := .intro
theorem tw14242279235437111421 : True := .intro
theorem tw7251310974110981741 : True := .intro
theorem tw3446237517371355320 : True := .intro
theorem tw15838317522582772942 : True := .intro
theorem tw5558910062766288790 : True := .intro
theorem tw16081210091997082329 : True := .intro
theorem tw167211960585581902 : True := .intro
theorem tw10602069461242089546 : True := .intro
theorem tw2050942245270933468 : True := .intro
theorem tw5411554779959912220 : True := .intro
theorem tw14260872373404807132 : True := .intro
theorem tw15241173405129872479 : True := .intro
theorem tw14152387568750196896 : True := .intro
theorem tw18393054901762481114 : True := .intro
theorem tw15979279101747970789 : True := .intro
theorem tw14370644039440262804 : True := .intro
theorem tw5935387580499598890 : True := .intro
theorem tw7050335482635671575 : True := .intro
theorem tw7307320716238812410 : True := .intro
theorem tw5199418744979222274 : True := .intro
theorem tw15104521185749145382 : True := .intro
theorem tw770534676126205785 : True := .intro
theorem tw11311285036640619586 : True := .intro
theorem tw14190712946880540788 : True := .intro
theorem tw7195601278881071066 : True := .intro
theorem tw16282595586745372102 : True := .intro
theorem tw650167007116926297 : True := .intro
theorem tw7705484315737501545 : True := .intro
theorem tw11803045820682773484 : True := .intro
theorem tw6183909410540268176 : True := .intro
theorem tw8891724825471574827 : True := .intro
theorem tw4092834160782879974 : True := .intro
theorem tw9936333252273714986 : True := .intro
theorem tw6593821985653375134 : True := .intro
theorem tw8535222386257118489 : True := .intro
theorem tw2756156475627642699 : True := .intro
theorem tw6569460927972340217 : True := .intro
theorem tw2234065816412111761 : True := .intro
theorem tw1017092550752382974 : True := .intro
theorem tw2247163246962843137 : True := .intro
theorem tw2250897316406488678 : True := .intro
theorem tw9156486328242976637 : True := .intro
theorem tw1764419610780642399 : True := .intro
theorem tw13981894489612509005 : True := .intro
theorem tw4681836006577488724 : True := .intro
theorem tw9888689224997735555 : True := .intro
theorem tw18092948557242930138 : True := .intro
theorem tw2867593869550527432 : True := .intro
theorem tw11072891982341458268 : True := .intro
theorem tw10680192695673213176 : True := .intro
theorem tw16300523629732715450 : True := .intro
theorem tw6892196568623518852 : True := .intro
theorem tw5034868211896540602 : True := .intro
theorem tw8304362390016605926 : True := .intro
theorem tw13805285721564928323 : True := .intro
theorem tw8199859657423534166 : True := .intro
theorem tw5429778268529226687 : True := .intro
theorem tw3123936841417307493 : True := .intro
theorem tw9513961044449570068 : True := .intro
theorem tw3133891497123842862 : True := .intro
theorem tw11831951912120318291 : True := .intro
theorem tw9402250280332572974 : True := .intro
theorem tw10852129275130000679 : True := .intro
theorem tw8721371506997151643 : True := .intro
theorem tw6705199344609090881 : True := .intro
theorem tw16571030276383104803 : True := .intro
theorem tw8730827853423391708 : True := .intro
theorem tw17787446023131990934 : True := .intro
theorem tw15903706122151363686 : True := .intro
theorem tw3997804571806104756 : True := .intro
theorem tw7810255724552426916 : True := .intro
theorem tw13828832209348078356 : True := .intro
theorem tw10599680685533987140 : True := .intro
theorem tw2120266583827685825 : True := .intro
theorem tw12652613795596304967 : True := .intro
theorem tw6051168723827438323 : True := .intro
theorem tw4348152041103470936 : True := .intro
theorem tw12238171687293285717 : True := .intro
theorem tw13938621910528610211 : True := .intro
theorem tw17306974710265869852 : True := .intro
theorem tw5631659989495473666 : True := .intro
theorem tw17266473973478752920 : True := .intro
theorem tw2915647453951596740 : True := .intro
theorem tw713721032303074526 : True := .intro
theorem tw18174685379186576001 : True := .intro
theorem tw7755657384372856496 : True := .intro
theorem tw1542479635250551927 : True := .intro
theorem tw729111313095154171 : True := .intro
theorem tw13022860089499909664 : True := .intro
theorem tw1821624491179213712 : True := .intro
theorem tw17908529534921935943 : True := .intro
theorem tw18305216078732085089 : True := .intro
theorem tw13078913144827852465 : True := .intro
theorem tw15517246872534903605 : True := .intro
theorem tw7581578678587205765 : True := .intro
theorem tw17841206113711971896 : True := .intro
theorem tw5086045396816453333 : True := .intro
theorem tw11331607677605289336 : True := .intro
theorem tw410271973707954972 : True := .intro
theorem tw6427317735543474599 : True := .intro
theorem tw4785737846980733854 : True := .intro
theorem tw8141553724172119190 : True := .intro
theorem tw14626417530111615791 : True := .intro
theorem tw16179584997507999310 : True := .intro
theorem tw2668042612990315857 : True := .intro
theorem tw859297969016111304 : True := .intro
theorem tw11567065856163378756 : True := .intro
theorem tw5478524945773072138 : True := .intro
theorem tw10391903510653181682 : True := .intro
theorem tw12001806878907453665 : True := .intro
theorem tw14592364788614641429 : True := .intro
theorem tw15590342026425090879 : True := .intro
theorem tw14045654298368357158 : True := .intro
theorem tw5236467702801277386 : True := .intro
theorem tw1114404422235950540 : True := .intro
theorem tw14059809121870196478 : True := .intro
theorem tw14264239997092005625 : True := .intro
theorem tw2737175238772190685 : True := .intro
theorem tw5439452337901087310 : True := .intro
theorem tw1804275179998247768 : True := .intro
theorem tw9986487805896592483 : True := .intro
theorem tw4732478810010774105 : True := .intro
theorem tw12088810509552574106 : True := .intro
theorem tw12158319105534952311 : True := .intro
theorem tw941283646715832683 : True := .intro
theorem tw13963872114325607442 : True := .intro
theorem tw7320806790343014846 : True := .intro
theorem tw2177991546565708938 : True := .intro
theorem tw2333323116692443127 : True := .intro
theorem tw3021029052270793536 : True := .intro
theorem tw17740420135368513846 : True := .intro
theorem tw11472666462882040321 : True := .intro
theorem tw16915531924334055499 : True := .intro
theorem tw4326754266909207862 : True := .intro
theorem tw14468131156823204789 : True := .intro
theorem tw16299775417972400116 : True := .intro
theorem tw16569082652881206380 : True := .intro
theorem tw15969154114977419744 : True := .intro
theorem tw5116546499577234483 : True := .intro
theorem tw485500833589994433 : True := .intro
theorem tw4441581081465623932 : True := .intro
theorem tw15506041364185401016 : True := .intro
theorem tw2370876294991500186 : True := .intro
theorem tw14941687642089627486 : True := .intro
theorem tw5446507017720991878 : True := .intro
theorem tw9972584734462300732 : True := .intro
theorem tw15564948159224468644 : True := .intro
theorem tw2756020447524715000 : True := .intro
theorem tw10239295462721653010 : True := .intro
theorem tw10445461819020476626 : True := .intro
theorem tw14737968865483896649 : True := .intro
theorem tw10954018367055668503 : True := .intro
theorem tw12342566626198886813 : True := .intro
theorem tw18296023562133573508 : True := .intro
theorem tw15921953113818916585 : True := .intro
theorem tw16742022952444802286 : True := .intro
theorem tw1910589395487746468 : True := .intro
theorem tw10787907075397920430 : True := .intro
theorem tw3288499136426957408 : True := .intro
theorem tw285269007377114848 : True := .intro
theorem tw14089659739842253408 : True := .intro
theorem tw16465934675355104973 : True := .intro
theorem tw11340128617691363140 : True := .intro
theorem tw8485180721534029721 : True := .intro
theorem tw4088827369968931291 : True := .intro
theorem tw11108300093740806361 : True := .intro
theorem tw106261798296344627 : True := .intro
theorem tw17041416928836139203 : True := .intro
theorem tw5143467261742792519 : True := .intro
theorem tw8860636770500631522 : True := .intro
theorem tw7396989204553593463 : True := .intro
theorem tw15937113173012102394 : True := .intro
theorem tw10438196955457539875 : True := .intro
theorem tw12566154474645021087 : True := .intro
theorem tw6431387678761765598 : True := .intro
theorem tw6233252668046424296 : True := .intro
theorem tw8030401884994116411 : True := .intro
theorem tw718553837823200855 : True := .intro
theorem tw9969811755879734257 : True := .intro
theorem tw13689794556014920320 : True := .intro
theorem tw10531975271563251873 : True := .intro
theorem tw2866522156286075768 : True := .intro
theorem tw16783044716410362781 : True := .intro
theorem tw18127227912900345229 : True := .intro
theorem tw17906803407742837807 : True := .intro
theorem tw10332810138851671479 : True := .intro
theorem tw10543801482611443626 : True := .intro
theorem tw2246064013186381701 : True := .intro
theorem tw9942156433818541680 : True := .intro
theorem tw13990587992297750956 : True := .intro
theorem tw10375094508899052452 : True := .intro
theorem tw11888482736104438935 : True := .intro
theorem tw1911712966911594430 : True := .intro
theorem tw17056108169407486261 : True := .intro
theorem tw10828209491955572466 : True := .intro
theorem tw6172345268426421847 : True := .intro
theorem tw3203538652982178540 : True := .intro
theorem tw9185068480493030105 : True := .intro
theorem tw2792296944062725418 : True := .intro
theorem tw381258890146085333 : True := .intro
theorem tw14775407957560727162 : True := .intro
theorem tw13293654261687335859 : True := .intro
theorem tw434827760311318822 : True := .intro
theorem tw14272795037723739998 : True := .intro
theorem tw17474754622247869212 : True := .intro
theorem tw18350129656233267748 : True := .intro
theorem tw2494831784734954944 : True := .intro
theorem tw16449079743002562328 : True := .intro
theorem tw11249947401522776843 : True := .intro
theorem tw6130356385386858864 : True := .intro
theorem tw7701053514244930289 : True := .intro
theorem tw17335958732946608504 : True := .intro
theorem tw18210436752914391867 : True := .intro
theorem tw11403310218577549061 : True := .intro
theorem tw14563231792004288008 : True := .intro
theorem tw918870759031768133 : True := .intro
theorem tw14198561805198423614 : True := .intro
theorem tw12591717424199660043 : True := .intro
theorem tw3043779906288808202 : True := .intro
theorem tw14514446535373889778 : True := .intro
theorem tw11117883309160172535 : True := .intro
theorem tw3440480108305358703 : True := .intro
theorem tw15509888726602656228 : True := .intro
theorem tw15671248478389846788 : True := .intro
theorem tw6938820893614934503 : True := .intro
theorem tw16724981057800817126 : True := .intro
theorem tw8634917884292069584 : True := .intro
theorem tw18281690485110176180 : True := .intro
theorem tw975825631575412558 : True := .intro
theorem tw11408189735907176942 : True := .intro
theorem tw5642975985451265846 : True := .intro
theorem tw4019135760627263026 : True := .intro
theorem tw17929604022919087995 : True := .intro
theorem tw15719259867437935044 : True := .intro
theorem tw17737017635692516572 : True := .intro
theorem tw645733378104329845 : True := .intro
theorem tw5548403163536764862 : True := .intro
theorem tw15665716607137877109 : True := .intro
theorem tw9684460583847069063 : True := .intro
theorem tw11399745641014471646 : True := .intro
theorem tw3581099747588260999 : True := .intro
theorem tw11952962995679907913 : True := .intro
theorem tw3309199391849245357 : True := .intro
theorem tw6131247169788582146 : True := .intro
theorem tw13108253613690158306 : True := .intro
theorem tw5193535180999052676 : True := .intro
theorem tw14747023943785478152 : True := .intro
theorem tw14159784273735049101 : True := .intro
theorem tw14141971665828262317 : True := .intro
theorem tw15800144851183030995 : True := .intro
theorem tw17365232810060276925 : True := .intro
theorem tw3711773953238892685 : True := .intro
theorem tw16287557266639592962 : True := .intro
theorem tw18165421740810053780 : True := .intro
theorem tw270141677226584837 : True := .intro
theorem tw4644033898553194507 : True := .intro
theorem tw9055608629517124839 : True := .intro
theorem tw9554408061852175752 : True := .intro
theorem tw9011506215496570985 : True := .intro
theorem tw8071576064439979627 : True := .intro
theorem tw6317274946119233 : True := .intro
theorem tw9371154897537995138 : True := .intro
theorem tw4773975712847461741 : True := .intro
theorem tw13366573414563181088 : True := .intro
theorem tw11374018531904008041 : True := .intro
theorem tw11046609809358423671 : True := .intro
theorem tw3144595808758376831 : True := .intro
theorem tw17091765273214503416 : True := .intro
theorem tw15913200783505326365 : True := .intro
theorem tw2107190031542727490 : True := .intro
theorem tw5124487376284684750 : True := .intro
theorem tw5279575804346995069 : True := .intro
theorem tw4109229867717318286 : True := .intro
theorem tw9120240522389104875 : True := .intro
theorem tw12566837177476631738 : True := .intro
theorem tw2211505445248056908 : True := .intro
theorem tw3051859801440171917 : True := .intro
theorem tw7549627772652524468 : True := .intro
theorem tw369232931605196995 : True := .intro
theorem tw8572545751489872870 : True := .intro
theorem tw10972844583088724132 : True := .intro
theorem tw10749392002245962587 : True := .intro
theorem tw10748208967759701899 : True := .intro
theorem tw14690904090684222244 : True := .intro
theorem tw14386755825847341394 : True := .intro
theorem tw14924534212057823132 : True := .intro
theorem tw16121253593226821871 : True := .intro
theorem tw11165737103059340711 : True := .intro
theorem tw15140428926063670552 : True := .intro
theorem tw3181153324083625706 : True := .intro
theorem tw12144987466815800208 : True := .intro
theorem tw6979793173604639566 : True := .intro
theorem tw17278842103081519082 : True := .intro
theorem tw14185136966695823208 : True := .intro
theorem tw6147968506744560057 : True := .intro
theorem tw7101653159473688332 : True := .intro
theorem tw17438599908913752271 : True := .intro
theorem tw2752157514893834470 : True := .intro
theorem tw5969530130013869608 : True := .intro
theorem tw9708928584206438670 : True := .intro
theorem tw9029882008184704761 : True := .intro
theorem tw9691089580702880309 : True := .intro
theorem tw8626726967797661061 : True := .intro
theorem tw8194440095861880530 : True := .intro
theorem tw16289652893369752254 : True := .intro
theorem tw6306087677690612703 : True := .intro
theorem tw8094635018953502025 : True := .intro
theorem tw7003247114880794908 : True := .intro
theorem tw5423578249235847387 : True := .intro
theorem tw10129246068273672415 : True := .intro
theorem tw1568371229478027950 : True := .intro
theorem tw15531169383767784738 : True := .intro
theorem tw8665303631038443294 : True := .intro
theorem tw9231328482509419004 : True := .intro
theorem tw18070929080849691977 : True := .intro
theorem tw11928404224791212701 : True := .intro
theorem tw5675782497912409096 : True := .intro
theorem tw16967807814257405211 : True := .intro
theorem tw14767580257986214177 : True := .intro
theorem tw4828309193527111129 : True := .intro
theorem tw1841144039919915777 : True := .intro
theorem tw1011329289740601031 : True := .intro
theorem tw18107753399835551088 : True := .intro
theorem tw11536935277955946796 : True := .intro
theorem tw9572705502416456997 : True := .intro
theorem tw11456602158431607101 : True := .intro
theorem tw12490591375468648030 : True := .intro
theorem tw5446194380551880719 : True := .intro
theorem tw526877437088483643 : True := .intro
theorem tw874013517565969695 : True := .intro
theorem tw9201752241116456492 : True := .intro
theorem tw1004811353578759952 : True := .intro
theorem tw15932760805747167601 : True := .intro
theorem tw467279785236504986 : True := .intro
theorem tw11739962655124150979 : True := .intro
theorem tw1428722608626408412 : True := .intro
theorem tw4360442386145413771 : True := .intro
theorem tw11850011162652840078 : True := .intro
theorem tw26275659036478174 : True := .intro
theorem tw14116947722675920750 : True := .intro
theorem tw1934762700791052377 : True := .intro
theorem tw13681585851354827616 : True := .intro
theorem tw5399806484263027707 : True := .intro
theorem tw9590116584726443305 : True := .intro
theorem tw14153957713064563680 : True := .intro
theorem tw11140784007363552591 : True := .intro
theorem tw7266886730120813234 : True := .intro
theorem tw17393476289088695737 : True := .intro
theorem tw17498949895215589443 : True := .intro
theorem tw11130309736602712283 : True := .intro
theorem tw13834196207221991507 : True := .intro
theorem tw13301297453709614921 : True := .intro
theorem tw3532341364448003216 : True := .intro
theorem tw2153126256513226426 : True := .intro
theorem tw13289405775305184012 : True := .intro
theorem tw4255763145133385094 : True := .intro
theorem tw1507761410199116507 : True := .intro
theorem tw10412747024975785622 : True := .intro
theorem tw10928019638817177947 : True := .intro
theorem tw17633701968282898159 : True := .intro
theorem tw11934627133567031605 : True := .intro
theorem tw682848310050839682 : True := .intro
theorem tw15836756524878907841 : True := .intro
theorem tw17120400011123271846 : True := .intro
theorem tw17053299266909823957 : True := .intro
theorem tw15728472983258788850 : True := .intro
theorem tw4284613096863564571 : True := .intro
theorem tw4251415446448498856 : True := .intro
theorem tw13928131964509068249 : True := .intro
theorem tw11131006101993866381 : True := .intro
theorem tw13222877698214891440 : True := .intro
theorem tw3416141968079627899 : True := .intro
theorem tw5053719210923994058 : True := .intro
theorem tw4970295724941482937 : True := .intro
theorem tw7703311566026665618 : True := .intro
theorem tw17553404649222587666 : True := .intro
theorem tw12419839513205309221 : True := .intro
theorem tw16753389279041708177 : True := .intro
theorem tw8610366584076708244 : True := .intro
theorem tw3465013780489739438 : True := .intro
theorem tw18246772721414956392 : True := .intro
theorem tw13642909344485090801 : True := .intro
theorem tw8021489935746108045 : True := .intro
theorem tw3947505654154534757 : True := .intro
theorem tw12159175615014918181 : True := .intro
theorem tw6002938856665281232 : True := .intro
theorem tw18024401188434172765 : True := .intro
theorem tw14796110032122441123 : True := .intro
theorem tw4140040168989158530 : True := .intro
theorem tw2167835939111034811 : True := .intro
theorem tw5941990387481268791 : True := .intro
theorem tw1985314000136578429 : True := .intro
theorem tw6049327055145676028 : True := .intro
theorem tw367500532143878356 : True := .intro
theorem tw47923563632062950 : True := .intro
theorem tw18274778552983735586 : True := .intro
theorem tw8818420108350812969 : True := .intro
theorem tw1980141504389342805 : True := .intro
theorem tw3186329356038088140 : True := .intro
theorem tw6622513374996531392 : True := .intro
theorem tw222399973730076975 : True := .intro
theorem tw6397388459348967838 : True := .intro
theorem tw929794950660139143 : True := .intro
theorem tw3052056311273295509 : True := .intro
theorem tw4987441467000889632 : True := .intro
theorem tw13142725373023339793 : True := .intro
theorem tw9388440968238332699 : True := .intro
theorem tw9949871721679741668 : True := .intro
theorem tw15963264270835711976 : True := .intro
theorem tw11316655816850120071 : True := .intro
theorem tw1629291377894200842 : True := .intro
theorem tw3417234952530281664 : True := .intro
theorem tw2117394817854654797 : True := .intro
theorem tw13930444473759925822 : True := .intro
theorem tw5944539590289823856 : True := .intro
theorem tw463488857051755797 : True := .intro
theorem tw2911429749850749503 : True := .intro
theorem tw484646568026031441 : True := .intro
theorem tw6503311860079775134 : True := .intro
theorem tw7196801364882160717 : True := .intro
theorem tw1910089833978626060 : True := .intro
theorem tw344291255480958301 : True := .intro
theorem tw5093694974389024176 : True := .intro
theorem tw1129069856195432471 : True := .intro
theorem tw14705444063497976949 : True := .intro
theorem tw15324739213526569180 : True := .intro
theorem tw533778218449585570 : True := .intro
theorem tw2714851429478225944 : True := .intro
theorem tw1405251560240796052 : True := .intro
theorem tw13450553768251593746 : True := .intro
theorem tw11101019973051528200 : True := .intro
theorem tw10498042919114488227 : True := .intro
theorem tw11801635418250925777 : True := .intro
theorem tw4052739046545717842 : True := .intro
theorem tw12914228069147335900 : True := .intro
theorem tw336974792424966904 : True := .intro
theorem tw15226101151949280387 : True := .intro
theorem tw3326723151011353800 : True := .intro
theorem tw14284805186456170224 : True := .intro
theorem tw16776116488977759383 : True := .intro
theorem tw1832662098758583794 : True := .intro
theorem tw10291414400428607606 : True := .intro
theorem tw241686856306003169 : True := .intro
theorem tw9312144597311747211 : True := .intro
theorem tw7838081211804930743 : True := .intro
theorem tw2048154807080647209 : True := .intro
theorem tw12173340424872001672 : True := .intro
theorem tw8893620779044740977 : True := .intro
theorem tw1051445716814571959 : True := .intro
theorem tw13902212635598961845 : True := .intro
theorem tw7257960734827892748 : True := .intro
theorem tw594196343290992379 : True := .intro
theorem tw11954105769507629264 : True := .intro
theorem tw30382910345334815 : True := .intro
theorem tw514703131318926615 : True := .intro
theorem tw2404646437266115901 : True := .intro
theorem tw17110170043166041041 : True := .intro
theorem tw13858802177449991052 : True := .intro
theorem tw6502809558627274023 : True := .intro
theorem tw7630199683849963064 : True := .intro
theorem tw15177305658724176879 : True := .intro
theorem tw2032711805317469215 : True := .intro
theorem tw12841741909661097070 : True := .intro
theorem tw11002321968582972512 : True := .intro
theorem tw9696378581737449310 : True := .intro
theorem tw8137301865788460151 : True := .intro
theorem tw6306019253150446120 : True := .intro
theorem tw11957998818824293265 : True := .intro
theorem tw1165665887609671122 : True := .intro
theorem tw17409784790243076442 : True := .intro
theorem tw8324955495792994513 : True := .intro
theorem tw15518669618579505026 : True := .intro
theorem tw6315859388086440342 : True := .intro
theorem tw9013592719226233512 : True := .intro
theorem tw3543432322718974760 : True := .intro
theorem tw10579005652989957712 : True := .intro
theorem tw5976215789306012086 : True := .intro
theorem tw3570621061317409036 : True := .intro
theorem tw8056438502949208698 : True := .intro
theorem tw12054239848299260492 : True := .intro
theorem tw13399099484119088671 : True := .intro
theorem tw7018621105073491030 : True := .intro
theorem tw5078153049252247348 : True := .intro
theorem tw800572654949105893 : True := .intro
theorem tw13442653369491987871 : True := .intro
theorem tw16135341623304423339 : True := .intro
theorem tw6686023586190889454 : True := .intro
theorem tw9412543719031627543 : True := .intro
theorem tw11239375420445035109 : True := .intro
theorem tw16047281304980395296 : True := .intro
theorem tw11060506718891768882 : True := .intro
theorem tw9107206149338499835 : True := .intro
theorem tw14590621693369278840 : True := .intro
theorem tw10808373080788376139 : True := .intro
theorem tw11388933910720073303 : True := .intro
theorem tw9122599492179596312 : True := .intro
theorem tw14504243455000947426 : True := .intro
theorem tw2930653598136281711 : True := .intro
theorem tw2142074675090222507 : True := .intro
theorem tw648743341267276567 : True := .intro
theorem tw8772023609311419372 : True := .intro
theorem tw16698410281125541760 : True := .intro
theorem tw5570091702038006489 : True := .intro
theorem tw5279344382831081247 : True := .intro
theorem tw11260554016861287877 : True := .intro
theorem tw15666086374793219793 : True := .intro
theorem tw14660122227184728728 : True := .intro
theorem tw13059443364992436137 : True := .intro
theorem tw12859436346634826865 : True := .intro
theorem tw14124614963276523338 : True := .intro
theorem tw6719619016843763491 : True := .intro
theorem tw288789080597771944 : True := .intro
theorem tw13311747863831799836 : True := .intro
theorem tw10041757271585332159 : True := .intro
theorem tw11359418437908356708 : True := .intro
theorem tw4623668093349747490 : True := .intro
theorem tw1910507426741165017 : True := .intro
theorem tw2654064246865742368 : True := .intro
theorem tw8340245496522716311 : True := .intro
theorem tw3518635167619071871 : True := .intro
theorem tw13241773832953701766 : True := .intro
theorem tw4295713805769897296 : True := .intro
theorem tw5172413157182951975 : True := .intro
theorem tw1934046609628160039 : True := .intro
theorem tw8083538839316234951 : True := .intro
theorem tw9729359176409069441 : True := .intro
theorem tw13094161118759567485 : True := .intro
theorem tw17766799476833248197 : True := .intro
theorem tw16423584430726028294 : True := .intro
theorem tw17561456642593808972 : True := .intro
theorem tw7074249554738622727 : True := .intro
theorem tw2851102800139815512 : True := .intro
theorem tw12126001488562122562 : True := .intro
theorem tw11240432245532514067 : True := .intro
theorem tw2040142162232193457 : True := .intro
theorem tw6050705139489044517 : True := .intro
theorem tw2629205416385695698 : True := .intro
theorem tw10836879690344508397 : True := .intro
theorem tw14326841775501022926 : True := .intro
theorem tw16862228209220814541 : True := .intro
theorem tw15403901337159918764 : True := .intro
theorem tw5950493258497812735 : True := .intro
theorem tw12281738334643644680 : True := .intro
theorem tw13377823581294831748 : True := .intro
theorem tw5379401594088409978 : True := .intro
theorem tw5012740968214028438 : True := .intro
theorem tw17882678501060306869 : True := .intro
theorem tw1923508502836399346 : True := .intro
theorem tw3106835729693890647 : True := .intro
theorem tw89342679557045236 : True := .intro
theorem tw3404039751562041326 : True := .intro
theorem tw15382709605311898183 : True := .intro
theorem tw6011640193930161549 : True := .intro
theorem tw16914228335355931 : True := .intro
theorem tw10127989462458501869 : True := .intro
theorem tw13751723940726798069 : True := .intro
theorem tw6674513860581935108 : True := .intro
theorem tw14042161053734932150 : True := .intro
theorem tw282992091757264567 : True := .intro
theorem tw11503230198209108274 : True := .intro
theorem tw14179609192513245612 : True := .intro
theorem tw10606716173171625645 : True := .intro
theorem tw8380907003393052487 : True := .intro
theorem tw2458638376834054194 : True := .intro
theorem tw715986497003019167 : True := .intro
theorem tw24304051996318013 : True := .intro
theorem tw5595927430948982283 : True := .intro
theorem tw8947988707925612469 : True := .intro
theorem tw18405020526431890318 : True := .intro
theorem tw14710675449526900427 : True := .intro
theorem tw269047324098119988 : True := .intro
theorem tw11234199879493922988 : True := .intro
theorem tw2712553401082355243 : True := .intro
theorem tw13076440781119723893 : True := .intro
theorem tw12662296557850805388 : True := .intro
theorem tw12499667706649835240 : True := .intro
theorem tw13601915277138562191 : True := .intro
theorem tw16049450271851595256 : True := .intro
theorem tw2987152435267776968 : True := .intro
theorem tw2452846237503857583 : True := .intro
theorem tw3424370919453418997 : True := .intro
theorem tw6568718426647947546 : True := .intro
theorem tw10264469493076920299 : True := .intro
theorem tw12317865719282849044 : True := .intro
theorem tw16117869368883032277 : True := .intro
theorem tw988282270880184375 : True := .intro
theorem tw240941178993232321 : True := .intro
theorem tw13250449464692484684 : True := .intro
theorem tw1708490824008184215 : True := .intro
theorem tw14259622948902123045 : True := .intro
theorem tw16990007167356699862 : True := .intro
end PySem.W.Fast
open PySem PySem.W PyProof.Rows
set_option maxHeartbeats 0
open_top K28.hd for PySem.Challenge.rw_filerights_k28_judge_refused
theorem PySem.Challenge.cw_filerights_k28_judge_refused_holds : PySem.Challenge.rw_filerights_k28_judge_refused.Holds := by
  refine K28.hd ?_
  k_fill
  refine FR.walk_ofG (l := PySem.Challenge.rw_filerights_k28_judge_refused) (n := 63) (k := 12) (sp := fun w => K28.spLaw _) rfl (by decide) rfl ⟨rfl, by decide, by decide⟩ (fun w h Y => PySem.W.kIn_of Y) ?F (fun _ _ a ns hl _ hS => ⟨a, ns, rfl, hS, hl, fun _ => rfl⟩)
  case F =>
    intro w mg fa h KX G hmg
    refine' K28.all_mk KX G hmg ?oa0 ?opg0 ?ohd0 ?opo0 ?osa0 ?omk0 ?okc0 ?oca0 ?ocn0 ?oct0 ?ocm0 ?osf0 ?ocd0 ?omr0 ?one0 ?ona_digit0 ?onfNoneType0 ?onfbool0 ?onfint0 ?onfstr0 ?onflist0 ?onftuple0 ?onfdict0 ?ord0 ?org0 ?oic0 ?oyt0 ?oktNoneType0 ?oktbool0 ?oktint0 ?oktstr0 ?oktlist0 ?okttuple0 ?oktdict0 ?oa1 ?opg1 ?ohd1 ?opo1 ?osa1 ?omk1 ?okc1 ?oca1 ?ocn1 ?oct1 ?ocm1 ?osf1 ?ocd1 ?omr1 ?one1 ?ona_owner1 ?ona_group1 ?ona_other1 ?ona_users1 ?ona_groups1 ?ona_mask1 ?onfNoneType1 ?onfbool1 ?onfint1 ?onfstr1 ?onflist1 ?onftuple1 ?onfdict1 ?ord1 ?org1 ?oic1 ?oyt1 ?oktNoneType1 ?oktbool1 ?oktint1 ?oktstr1 ?oktlist1 ?okttuple1 ?oktdict1 ?oa2 ?opg2 ?ohd2 ?opo2 ?osa2 ?omk2 ?okc2 ?oca2 ?ocn2 ?oct2 ?ocm2 ?osf2 ?ocd2 ?omr2 ?one2 ?ona_held2 ?ona_groups2 ?onfNoneType2 ?onfbool2 ?onfint2 ?onfstr2 ?onflist2 ?onftuple2 ?onfdict2 ?ord2 ?org2 ?oic2 ?oyt2 ?oktNoneType2 ?oktbool2 ?oktint2 ?oktstr2 ?oktlist2 ?okttuple2 ?oktdict2 ?oa3 ?opg3 ?ohd3 ?opo3 ?osa3 ?omk3 ?okc3 ?oca3 ?ocn3 ?oct3 ?ocm3 ?osf3 ?ocd3 ?omr3 ?one3 ?ona_people3 ?ord3 ?org3 ?oic3 ?oyt3 ?a0 ?l0 ?c0 ?k0 ?a1 ?l1 ?c1 ?k1 ?a2 ?l2 ?c2 ?k2 ?a3 ?l3 ?c3 ?k3 ?a4 ?l4 ?c4 ?k4 ?a5 ?l5 ?c5 ?k5 ?a6 ?l6 ?c6 ?k6 ?a7 ?l7 ?c7 ?k7 ?a8 ?l8 ?c8 ?k8 ?a9 ?l9 ?c9 ?k9 ?a10 ?l10 ?c10 ?k10 ?a11 ?l11 ?c11 ?k11 ?a12 ?l12 ?c12 ?k12 ?a13 ?l13 ?c13 ?k13 ?a14 ?l14 ?c14 ?k14 ?a15 ?l15 ?c15 ?k15 ?a16 ?l16 ?c16 ?k16 ?a17 ?l17 ?c17 ?k17 ?a18 ?l18 ?c18 ?k18 ?a19 ?l19 ?c19 ?k19 ?a20 ?l20 ?c20 ?k20 ?a21 ?l21 ?c21 ?k21 ?a22 ?l22 ?c22 ?k22 ?a23 ?l23 ?c23 ?k23 ?a24 ?l24 ?c24 ?k24 ?a25 ?t25 ?l25 ?c25 ?k25 ?dl25 ?dd25 ?dv25 ?a26 ?px26 ?pf26 ?l26 ?c26 ?k26 ?a27 ?px27 ?pf27 ?l27 ?c27 ?k27 ?a28 ?pg28 ?pt28 ?px28 ?l28 ?c28 ?k28 ?a31 ?t31 ?l31 ?c31 ?k31 ?a42 ?t42 ?l42 ?c42 ?k42 ?w42_0 ?w42_1 ?w42_2 ?a43 ?t43 ?l43 ?c43 ?k43 ?a47 ?pg47 ?pt47 ?px47 ?l47 ?c47 ?k47 ?a48 ?pg48 ?pt48 ?px48 ?l48 ?c48 ?k48 ?a49 ?pg49 ?pt49 ?px49 ?l49 ?c49 ?k49 ?a50 ?pg50 ?pt50 ?px50 ?l50 ?c50 ?k50 ?a53 ?t53 ?l53 ?c53 ?k53 ?a54 ?t54 ?l54 ?c54 ?k54 ?a66 ?t66 ?l66 ?c66 ?k66 ?a68 ?t68 ?l68 ?c68 ?k68 ?a69 ?t69 ?l69 ?c69 ?k69 ?a72 ?t72 ?l72 ?c72 ?k72 ?a76 ?t76 ?l76 ?c76 ?k76 ?a77 ?t77 ?l77 ?c77 ?k77 ?a78 ?t78 ?l78 ?c78 ?k78 ?a79 ?t79 ?l79 ?c79 ?k79 ?a80 ?t80 ?l80 ?c80 ?k80 ?ka0 ?ka1 ?ka2 ?ka3 ?ka4 ?ka5 ?ka6 ?ic0 ?yt0 ?ic1 ?yt1 ?xl2 ?sa2 ?ga2 ?gg2 ?nb2 ?in2 ?ti2 ?li2 ?ci2 ?kc2 ?eb2 ?yt2 ?hd2 ?ic2 ?sc2 ?ca2 ?cn2 ?xt2 ?cm2 ?xl3 ?sa3 ?ga3 ?gg3 ?nb3 ?in3 ?ti3 ?li3 ?ci3 ?kc3 ?eb3 ?yt3 ?hd3 ?ic3 ?sc3 ?ca3 ?cn3 ?xt3 ?cm3 ?xl4 ?sa4 ?ga4 ?gg4 ?nb4 ?in4 ?ti4 ?li4 ?ci4 ?kc4 ?eb4 ?yt4 ?hd4 ?ic4 ?sc4 ?ca4 ?cn4 ?xt4 ?cm4 ?xl5 ?sa5 ?ga5 ?gg5 ?nb5 ?in5 ?ti5 ?li5 ?ci5 ?kc5 ?eb5 ?yt5 ?hd5 ?ic5 ?sc5 ?ca5 ?cn5 ?xt5 ?cm5 ?xl6 ?sa6 ?ga6 ?gg6 ?nb6 ?in6 ?ti6 ?li6 ?ci6 ?kc6 ?eb6 ?yt6 ?hd6 ?ic6 ?sc6 ?ca6 ?cn6 ?xt6 ?cm6 ?kit_UnknownUser_MissingError ?kit_UnknownUser_UnknownGroup ?kit_UnknownGroup_MissingError ?kit_UnknownGroup_RightsError ?kit_InvalidList_RightsError ?kit_InvalidList_InvalidRights ?kit_InvalidRights_RightsError ?kit_InvalidRights_MissingError ?exm_UnknownGroup_UnknownUser ?exm_InvalidList_UnknownUser ?exm_InvalidList_UnknownGroup ?exm_InvalidRights_UnknownUser ?exm_InvalidRights_UnknownGroup ?exm_InvalidRights_InvalidList ?q0 ?q1 ?q2 ?q3 ?kl3 ?ky3 ?ks3 ?kq3 ?kv3_0 ?kv3_1 ?kv3_2 ?kv3_3 ?kv3_4 ?kv3_5 ?kv3_6 ?kv3_7 ?kv3_8 ?kv3_9 ?kv3_10 ?kv3_11 ?kv3_12 ?kv3_13 ?kv3_14 ?kv3_15 ?q4 ?kl4 ?ku4 ?kd4 ?kz4 ?kv4 ?q5 ?q6 ?kl6 ?ky6 ?ks6 ?kq6 ?kv6_0 ?kv6_1 ?kv6_2 ?kv6_3 ?kv6_4 ?kv6_5 ?q7 ?q8 ?z0 ?z1 ?z2 ?z3 ?z4 ?z5 ?z6 ?z7 ?z8 ?z9 ?z10 ?z11 ?z12 ?z13 ?z14 ?z15
    (case oa0 => k_is)
    (case opg0 => k_is)
    (case ohd0 => k_is)
    (case opo0 => k_is)
    (case osa0 => k_is)
    (case omk0 => first | k_is | exact (by rfl) | exact FR.size_le (by decide) | decide | (repeat (first | exact True.intro | exact .nil | refine .cons ⟨_, rfl⟩ ?_ | refine ⟨⟨_, _, rfl, rfl⟩, ?_⟩)))
    (case okc0 => k_is)
    (case oca0 => k_is)
    (case ocn0 => k_is)
    (case oct0 => k_is)
    (case ocm0 => k_is)
    (case osf0 => k_is)
    (case ocd0 => k_is)
    (case omr0 => first | k_is | exact (by rfl) | exact FR.size_le (by decide) | decide | (repeat (first | exact True.intro | exact .nil | refine .cons ⟨_, rfl⟩ ?_ | refine ⟨⟨_, _, rfl, rfl⟩, ?_⟩)))
    (case one0 => k_is)
    (case ona_digit0 => k_is)
    (case onfNoneType0 => k_is)
    (case onfbool0 => k_is)
    (case onfint0 => k_is)
    (case onfstr0 => k_is)
    (case onflist0 => k_is)
    (case onftuple0 => k_is)
    (case onfdict0 => k_is)
    (case ord0 => k_is)
    (case org0 => k_is)
    (case oic0 => k_is)
    (case oyt0 => k_is)
    (case oktNoneType0 => k_is)
    (case oktbool0 => k_is)
    (case oktint0 => k_is)
    (case oktstr0 => k_is)
    (case oktlist0 => k_is)
    (case okttuple0 => k_is)
    (case oktdict0 => k_is)
    (case oa1 => k_is)
    (case opg1 => k_is)
    (case ohd1 => k_is)
    (case opo1 => k_is)
    (case osa1 => k_is)
    (case omk1 => first | k_is | exact (by rfl) | exact FR.size_le (by decide) | decide | (repeat (first | exact True.intro | exact .nil | refine .cons ⟨_, rfl⟩ ?_ | refine ⟨⟨_, _, rfl, rfl⟩, ?_⟩)))
    (case okc1 => k_is)
    (case oca1 => k_is)
    (case ocn1 => k_is)
    (case oct1 => k_is)
    (case ocm1 => k_is)
    (case osf1 => k_is)
    (case ocd1 => k_is)
    (case omr1 => first | k_is | exact (by rfl) | exact FR.size_le (by decide) | decide | (repeat (first | exact True.intro | exact .nil | refine .cons ⟨_, rfl⟩ ?_ | refine ⟨⟨_, _, rfl, rfl⟩, ?_⟩)))
    (case one1 => k_is)
    (case ona_owner1 => k_is)
    (case ona_group1 => k_is)
    (case ona_other1 => k_is)
    (case ona_users1 => k_is)
    (case ona_groups1 => k_is)
    (case ona_mask1 => k_is)
    (case onfNoneType1 => k_is)
    (case onfbool1 => k_is)
    (case onfint1 => k_is)
    (case onfstr1 => k_is)
    (case onflist1 => k_is)
    (case onftuple1 => k_is)
    (case onfdict1 => k_is)
    (case ord1 => k_is)
    (case org1 => k_is)
    (case oic1 => k_is)
    (case oyt1 => k_is)
    (case oktNoneType1 => k_is)
    (case oktbool1 => k_is)
    (case oktint1 => k_is)
    (case oktstr1 => k_is)
    (case oktlist1 => k_is)
    (case okttuple1 => k_is)
    (case oktdict1 => k_is)
    (case oa2 => k_is)
    (case opg2 => k_is)
    (case ohd2 => k_is)
    (case opo2 => k_is)
    (case osa2 => k_is)
    (case omk2 => first | k_is | exact (by rfl) | exact FR.size_le (by decide) | decide | (repeat (first | exact True.intro | exact .nil | refine .cons ⟨_, rfl⟩ ?_ | refine ⟨⟨_, _, rfl, rfl⟩, ?_⟩)))
    (case okc2 => k_is)
    (case oca2 => k_is)
    (case ocn2 => k_is)
    (case oct2 => k_is)
    (case ocm2 => k_is)
    (case osf2 => k_is)
    (case ocd2 => k_is)
    (case omr2 => first | k_is | exact (by rfl) | exact FR.size_le (by decide) | decide | (repeat (first | exact True.intro | exact .nil | refine .cons ⟨_, rfl⟩ ?_ | refine ⟨⟨_, _, rfl, rfl⟩, ?_⟩)))
    (case one2 => k_is)
    (case ona_held2 => k_is)
    (case ona_groups2 => k_is)
    (case onfNoneType2 => k_is)
    (case onfbool2 => k_is)
    (case onfint2 => k_is)
    (case onfstr2 => k_is)
    (case onflist2 => k_is)
    (case onftuple2 => k_is)
    (case onfdict2 => k_is)
    (case ord2 => k_is)
    (case org2 => k_is)
    (case oic2 => k_is)
    (case oyt2 => k_is)
    (case oktNoneType2 => k_is)
    (case oktbool2 => k_is)
    (case oktint2 => k_is)
    (case oktstr2 => k_is)
    (case oktlist2 => k_is)
    (case okttuple2 => k_is)
    (case oktdict2 => k_is)
    (case oa3 => k_is)
    (case opg3 => k_is)
    (case ohd3 => k_is)
    (case opo3 => k_is)
    (case osa3 => k_is)
    (case omk3 => first | k_is | exact (by rfl) | exact FR.size_le (by decide) | decide | (repeat (first | exact True.intro | exact .nil | refine .cons ⟨_, rfl⟩ ?_ | refine ⟨⟨_, _, rfl, rfl⟩, ?_⟩)))
    (case okc3 => k_is)
    (case oca3 => k_is)
    (case ocn3 => k_is)
    (case oct3 => k_is)
    (case ocm3 => k_is)
    (case osf3 => k_is)
    (case ocd3 => k_is)
    (case omr3 => first | k_is | exact (by rfl) | exact FR.size_le (by decide) | decide | (repeat (first | exact True.intro | exact .nil | refine .cons ⟨_, rfl⟩ ?_ | refine ⟨⟨_, _, rfl, rfl⟩, ?_⟩)))
    (case one3 => k_is)
    (case ona_people3 => k_is)
    (case ord3 => k_is)
    (case org3 => k_is)
    (case oic3 => k_is)
    (case oyt3 => k_is)
    (case a0 => k_is)
    (case l0 => k_is)
    (case c0 => k_is)
    (case k0 => k_is)
    (case a1 => k_is)
    (case l1 => k_is)
    (case c1 => k_is)
    (case k1 => k_is)
    (case a2 => k_is)
    (case l2 => k_is)
    (case c2 => k_is)
    (case k2 => k_is)
    (case a3 => k_is)
    (case l3 => k_is)
    (case c3 => k_is)
    (case k3 => k_is)
    (case a4 => k_is)
    (case l4 => k_is)
    (case c4 => k_is)
    (case k4 => k_is)
    (case a5 => k_is)
    (case l5 => k_is)
    (case c5 => k_is)
    (case k5 => k_is)
    (case a6 => k_is)
    (case l6 => k_is)
    (case c6 => k_is)
    (case k6 => k_is)
    (case a7 => k_is)
    (case l7 => k_is)
    (case c7 => k_is)
    (case k7 => k_is)
    (case a8 => k_is)
    (case l8 => k_is)
    (case c8 => k_is)
    (case k8 => k_is)
    (case a9 => k_is)
    (case l9 => k_is)
    (case c9 => k_is)
    (case k9 => k_is)
    (case a10 => k_is)
    (case l10 => k_is)
    (case c10 => k_is)
    (case k10 => k_is)
    (case a11 => k_is)
    (case l11 => k_is)
    (case c11 => k_is)
    (case k11 => k_is)
    (case a12 => k_is)
    (case l12 => k_is)
    (case c12 => k_is)
    (case k12 => k_is)
    (case a13 => k_is)
    (case l13 => k_is)
    (case c13 => k_is)
    (case k13 => k_is)
    (case a14 => k_is)
    (case l14 => k_is)
    (case c14 => k_is)
    (case k14 => k_is)
    (case a15 => k_is)
    (case l15 => k_is)
    (case c15 => k_is)
    (case k15 => k_is)
    (case a16 => k_is)
    (case l16 => k_is)
    (case c16 => k_is)
    (case k16 => k_is)
    (case a17 => k_is)
    (case l17 => k_is)
    (case c17 => k_is)
    (case k17 => k_is)
    (case a18 => k_is)
    (case l18 => k_is)
    (case c18 => k_is)
    (case k18 => k_is)
    (case a19 => k_is)
    (case l19 => k_is)
    (case c19 => k_is)
    (case k19 => k_is)
    (case a20 => k_is)
    (case l20 => k_is)
    (case c20 => k_is)
    (case k20 => k_is)
    (case a21 => k_is)
    (case l21 => k_is)
    (case c21 => k_is)
    (case k21 => k_is)
    (case a22 => k_is)
    (case l22 => k_is)
    (case c22 => k_is)
    (case k22 => k_is)
    (case a23 => k_is)
    (case l23 => k_is)
    (case c23 => k_is)
    (case k23 => k_is)
    (case a24 => k_is)
    (case l24 => k_is)
    (case c24 => k_is)
    (case k24 => k_is)
    (case a25 => k_is)
    (case t25 => k_is)
    (case l25 => k_is)
    (case c25 => k_is)
    (case k25 => k_is)
    (case dl25 => k_is)
    (case dd25 => first | k_is | exact (by rfl) | exact FR.size_le (by decide) | decide | (repeat (first | exact True.intro | exact .nil | refine .cons ⟨_, rfl⟩ ?_ | refine ⟨⟨_, _, rfl, rfl⟩, ?_⟩)))
    (case dv25 => first | k_is | exact (by rfl) | exact FR.size_le (by decide) | decide | (repeat (first | exact True.intro | exact .nil | refine .cons ⟨_, rfl⟩ ?_ | refine ⟨⟨_, _, rfl, rfl⟩, ?_⟩)))
    (case a26 => k_is)
    (case px26 => k_is)
    (case pf26 => k_is)
    (case l26 => k_is)
    (case c26 => k_is)
    (case k26 => k_is)
    (case a27 => k_is)
    (case px27 => k_is)
    (case pf27 => k_is)
    (case l27 => k_is)
    (case c27 => k_is)
    (case k27 => k_is)
    (case a28 => k_is)
    (case pg28 => k_is)
    (case pt28 => k_is)
    (case px28 => k_is)
    (case l28 => k_is)
    (case c28 => k_is)
    (case k28 => k_is)
    (case a31 => k_is)
    (case t31 => k_is)
    (case l31 => k_is)
    (case c31 => k_is)
    (case k31 => k_is)
    (case a42 => k_is)
    (case t42 => k_is)
    (case l42 => k_is)
    (case c42 => k_is)
    (case k42 => k_is)
    (case w42_0 => k_is)
    (case w42_1 => k_is)
    (case w42_2 => k_is)
    (case a43 => k_is)
    (case t43 => k_is)
    (case l43 => k_is)
    (case c43 => k_is)
    (case k43 => k_is)
    (case a47 => k_is)
    (case pg47 => k_is)
    (case pt47 => k_is)
    (case px47 => k_is)
    (case l47 => k_is)
    (case c47 => k_is)
    (case k47 => k_is)
    (case a48 => k_is)
    (case pg48 => k_is)
    (case pt48 => k_is)
    (case px48 => k_is)
    (case l48 => k_is)
    (case c48 => k_is)
    (case k48 => k_is)
    (case a49 => k_is)
    (case pg49 => k_is)
    (case pt49 => k_is)
    (case px49 => k_is)
    (case l49 => k_is)
    (case c49 => k_is)
    (case k49 => k_is)
    (case a50 => k_is)
    (case pg50 => k_is)
    (case pt50 => k_is)
    (case px50 => k_is)
    (case l50 => k_is)
    (case c50 => k_is)
    (case k50 => k_is)
    (case a53 => k_is)
    (case t53 => k_is)
    (case l53 => k_is)
    (case c53 => k_is)
    (case k53 => k_is)
    (case a54 => k_is)
    (case t54 => k_is)
    (case l54 => k_is)
    (case c54 => k_is)
    (case k54 => k_is)
    (case a66 => k_is)
    (case t66 => k_is)
    (case l66 => k_is)
    (case c66 => k_is)
    (case k66 => k_is)
    (case a68 => k_is)
    (case t68 => k_is)
    (case l68 => k_is)
    (case c68 => k_is)
    (case k68 => k_is)
    (case a69 => k_is)
    (case t69 => k_is)
    (case l69 => k_is)
    (case c69 => k_is)
    (case k69 => k_is)
    (case a72 => k_is)
    (case t72 => k_is)
    (case l72 => k_is)
    (case c72 => k_is)
    (case k72 => k_is)
    (case a76 => k_is)
    (case t76 => k_is)
    (case l76 => k_is)
    (case c76 => k_is)
    (case k76 => k_is)
    (case a77 => k_is)
    (case t77 => k_is)
    (case l77 => k_is)
    (case c77 => k_is)
    (case k77 => k_is)
    (case a78 => k_is)
    (case t78 => k_is)
    (case l78 => k_is)
    (case c78 => k_is)
    (case k78 => k_is)
    (case a79 => k_is)
    (case t79 => k_is)
    (case l79 => k_is)
    (case c79 => k_is)
    (case k79 => k_is)
    (case a80 => k_is)
    (case t80 => k_is)
    (case l80 => k_is)
    (case c80 => k_is)
    (case k80 => k_is)
    (case ka0 => k_is)
    (case ka1 => k_is)
    (case ka2 => k_is)
    (case ka3 => k_is)
    (case ka4 => k_is)
    (case ka5 => k_is)
    (case ka6 => k_is)
    (case ic0 => k_is)
    (case yt0 => k_is)
    (case ic1 => k_is)
    (case yt1 => k_is)
    (case xl2 => k_is)
    (case sa2 => k_is)
    (case ga2 => k_is)
    (case gg2 => k_is)
    (case nb2 => k_is)
    (case in2 => k_is)
    (case ti2 => k_is)
    (case li2 => k_is)
    (case ci2 => k_is)
    (case kc2 => k_is)
    (case eb2 => k_is)
    (case yt2 => k_is)
    (case hd2 => k_is)
    (case ic2 => k_is)
    (case sc2 => k_is)
    (case ca2 => k_is)
    (case cn2 => k_is)
    (case xt2 => k_is)
    (case cm2 => k_is)
    (case xl3 => k_is)
    (case sa3 => k_is)
    (case ga3 => k_is)
    (case gg3 => k_is)
    (case nb3 => k_is)
    (case in3 => k_is)
    (case ti3 => k_is)
    (case li3 => k_is)
    (case ci3 => k_is)
    (case kc3 => k_is)
    (case eb3 => k_is)
    (case yt3 => k_is)
    (case hd3 => k_is)
    (case ic3 => k_is)
    (case sc3 => k_is)
    (case ca3 => k_is)
    (case cn3 => k_is)
    (case xt3 => k_is)
    (case cm3 => k_is)
    (case xl4 => k_is)
    (case sa4 => k_is)
    (case ga4 => k_is)
    (case gg4 => k_is)
    (case nb4 => k_is)
    (case in4 => k_is)
    (case ti4 => k_is)
    (case li4 => k_is)
    (case ci4 => k_is)
    (case kc4 => k_is)
    (case eb4 => k_is)
    (case yt4 => k_is)
    (case hd4 => k_is)
    (case ic4 => k_is)
    (case sc4 => k_is)
    (case ca4 => k_is)
    (case cn4 => k_is)
    (case xt4 => k_is)
    (case cm4 => k_is)
    (case xl5 => k_is)
    (case sa5 => k_is)
    (case ga5 => k_is)
    (case gg5 => k_is)
    (case nb5 => k_is)
    (case in5 => k_is)
    (case ti5 => k_is)
    (case li5 => k_is)
    (case ci5 => k_is)
    (case kc5 => k_is)
    (case eb5 => k_is)
    (case yt5 => k_is)
    (case hd5 => k_is)
    (case ic5 => k_is)
    (case sc5 => k_is)
    (case ca5 => k_is)
    (case cn5 => k_is)
    (case xt5 => k_is)
    (case cm5 => k_is)
    (case xl6 => k_is)
    (case sa6 => k_is)
    (case ga6 => k_is)
    (case gg6 => k_is)
    (case nb6 => k_is)
    (case in6 => k_is)
    (case ti6 => k_is)
    (case li6 => k_is)
    (case ci6 => k_is)
    (case kc6 => k_is)
    (case eb6 => k_is)
    (case yt6 => k_is)
    (case hd6 => k_is)
    (case ic6 => k_is)
    (case sc6 => k_is)
    (case ca6 => k_is)
    (case cn6 => k_is)
    (case xt6 => k_is)
    (case cm6 => k_is)
    (case kit_UnknownUser_MissingError => k_is)
    (case kit_UnknownUser_UnknownGroup => k_is)
    (case kit_UnknownGroup_MissingError => k_is)
    (case kit_UnknownGroup_RightsError => k_is)
    (case kit_InvalidList_RightsError => k_is)
    (case kit_InvalidList_InvalidRights => k_is)
    (case kit_InvalidRights_RightsError => k_is)
    (case kit_InvalidRights_MissingError => k_is)
    (case exm_UnknownGroup_UnknownUser => k_is)
    (case exm_InvalidList_UnknownUser => k_is)
    (case exm_InvalidList_UnknownGroup => k_is)
    (case exm_InvalidRights_UnknownUser => k_is)
    (case exm_InvalidRights_UnknownGroup => k_is)
    (case exm_InvalidRights_InvalidList => k_is)
    (case q0 => k_is)
    (case q1 => k_is)
    (case q2 => k_is)
    (case q3 => k_is)
    (case kl3 => k_is)
    (case ky3 => first | k_is | exact (by rfl) | exact FR.size_le (by decide) | decide | (repeat (first | exact True.intro | exact .nil | refine .cons ⟨_, rfl⟩ ?_ | refine ⟨⟨_, _, rfl, rfl⟩, ?_⟩)))
    (case ks3 => first | k_is | exact (by rfl) | exact FR.size_le (by decide) | decide | (repeat (first | exact True.intro | exact .nil | refine .cons ⟨_, rfl⟩ ?_ | refine ⟨⟨_, _, rfl, rfl⟩, ?_⟩)))
    (case kq3 => first | k_is | exact (by rfl) | exact FR.size_le (by decide) | decide | (repeat (first | exact True.intro | exact .nil | refine .cons ⟨_, rfl⟩ ?_ | refine ⟨⟨_, _, rfl, rfl⟩, ?_⟩)))
    (case kv3_0 => first | k_is | exact (by rfl) | exact FR.size_le (by decide) | decide | (repeat (first | exact True.intro | exact .nil | refine .cons ⟨_, rfl⟩ ?_ | refine ⟨⟨_, _, rfl, rfl⟩, ?_⟩)))
    (case kv3_1 => first | k_is | exact (by rfl) | exact FR.size_le (by decide) | decide | (repeat (first | exact True.intro | exact .nil | refine .cons ⟨_, rfl⟩ ?_ | refine ⟨⟨_, _, rfl, rfl⟩, ?_⟩)))
    (case kv3_2 => first | k_is | exact (by rfl) | exact FR.size_le (by decide) | decide | (repeat (first | exact True.intro | exact .nil | refine .cons ⟨_, rfl⟩ ?_ | refine ⟨⟨_, _, rfl, rfl⟩, ?_⟩)))
    (case kv3_3 => first | k_is | exact (by rfl) | exact FR.size_le (by decide) | decide | (repeat (first | exact True.intro | exact .nil | refine .cons ⟨_, rfl⟩ ?_ | refine ⟨⟨_, _, rfl, rfl⟩, ?_⟩)))
    (case kv3_4 => first | k_is | exact (by rfl) | exact FR.size_le (by decide) | decide | (repeat (first | exact True.intro | exact .nil | refine .cons ⟨_, rfl⟩ ?_ | refine ⟨⟨_, _, rfl, rfl⟩, ?_⟩)))
    (case kv3_5 => first | k_is | exact (by rfl) | exact FR.size_le (by decide) | decide | (repeat (first | exact True.intro | exact .nil | refine .cons ⟨_, rfl⟩ ?_ | refine ⟨⟨_, _, rfl, rfl⟩, ?_⟩)))
    (case kv3_6 => first | k_is | exact (by rfl) | exact FR.size_le (by decide) | decide | (repeat (first | exact True.intro | exact .nil | refine .cons ⟨_, rfl⟩ ?_ | refine ⟨⟨_, _, rfl, rfl⟩, ?_⟩)))
    (case kv3_7 => first | k_is | exact (by rfl) | exact FR.size_le (by decide) | decide | (repeat (first | exact True.intro | exact .nil | refine .cons ⟨_, rfl⟩ ?_ | refine ⟨⟨_, _, rfl, rfl⟩, ?_⟩)))
    (case kv3_8 => first | k_is | exact (by rfl) | exact FR.size_le (by decide) | decide | (repeat (first | exact True.intro | exact .nil | refine .cons ⟨_, rfl⟩ ?_ | refine ⟨⟨_, _, rfl, rfl⟩, ?_⟩)))
    (case kv3_9 => first | k_is | exact (by rfl) | exact FR.size_le (by decide) | decide | (repeat (first | exact True.intro | exact .nil | refine .cons ⟨_, rfl⟩ ?_ | refine ⟨⟨_, _, rfl, rfl⟩, ?_⟩)))
    (case kv3_10 => first | k_is | exact (by rfl) | exact FR.size_le (by decide) | decide | (repeat (first | exact True.intro | exact .nil | refine .cons ⟨_, rfl⟩ ?_ | refine ⟨⟨_, _, rfl, rfl⟩, ?_⟩)))
    (case kv3_11 => first | k_is | exact (by rfl) | exact FR.size_le (by decide) | decide | (repeat (first | exact True.intro | exact .nil | refine .cons ⟨_, rfl⟩ ?_ | refine ⟨⟨_, _, rfl, rfl⟩, ?_⟩)))
    (case kv3_12 => first | k_is | exact (by rfl) | exact FR.size_le (by decide) | decide | (repeat (first | exact True.intro | exact .nil | refine .cons ⟨_, rfl⟩ ?_ | refine ⟨⟨_, _, rfl, rfl⟩, ?_⟩)))
    (case kv3_13 => first | k_is | exact (by rfl) | exact FR.size_le (by decide) | decide | (repeat (first | exact True.intro | exact .nil | refine .cons ⟨_, rfl⟩ ?_ | refine ⟨⟨_, _, rfl, rfl⟩, ?_⟩)))
    (case kv3_14 => first | k_is | exact (by rfl) | exact FR.size_le (by decide) | decide | (repeat (first | exact True.intro | exact .nil | refine .cons ⟨_, rfl⟩ ?_ | refine ⟨⟨_, _, rfl, rfl⟩, ?_⟩)))
    (case kv3_15 => first | k_is | exact (by rfl) | exact FR.size_le (by decide) | decide | (repeat (first | exact True.intro | exact .nil | refine .cons ⟨_, rfl⟩ ?_ | refine ⟨⟨_, _, rfl, rfl⟩, ?_⟩)))
    (case q4 => k_is)
    (case kl4 => k_is)
    (case ku4 => first | k_is | exact (by rfl) | exact FR.size_le (by decide) | decide | (repeat (first | exact True.intro | exact .nil | refine .cons ⟨_, rfl⟩ ?_ | refine ⟨⟨_, _, rfl, rfl⟩, ?_⟩)))
    (case kd4 => first | k_is | exact (by rfl) | exact FR.size_le (by decide) | decide | (repeat (first | exact True.intro | exact .nil | refine .cons ⟨_, rfl⟩ ?_ | refine ⟨⟨_, _, rfl, rfl⟩, ?_⟩)))
    (case kz4 => first | k_is | exact (by rfl) | exact FR.size_le (by decide) | decide | (repeat (first | exact True.intro | exact .nil | refine .cons ⟨_, rfl⟩ ?_ | refine ⟨⟨_, _, rfl, rfl⟩, ?_⟩)))
    (case kv4 => first | k_is | exact (by rfl) | exact FR.size_le (by decide) | decide | (repeat (first | exact True.intro | exact .nil | refine .cons ⟨_, rfl⟩ ?_ | refine ⟨⟨_, _, rfl, rfl⟩, ?_⟩)))
    (case q5 => k_is)
    (case q6 => k_is)
    (case kl6 => k_is)
    (case ky6 => first | k_is | exact (by rfl) | exact FR.size_le (by decide) | decide | (repeat (first | exact True.intro | exact .nil | refine .cons ⟨_, rfl⟩ ?_ | refine ⟨⟨_, _, rfl, rfl⟩, ?_⟩)))
    (case ks6 => first | k_is | exact (by rfl) | exact FR.size_le (by decide) | decide | (repeat (first | exact True.intro | exact .nil | refine .cons ⟨_, rfl⟩ ?_ | refine ⟨⟨_, _, rfl, rfl⟩, ?_⟩)))
    (case kq6 => first | k_is | exact (by rfl) | exact FR.size_le (by decide) | decide | (repeat (first | exact True.intro | exact .nil | refine .cons ⟨_, rfl⟩ ?_ | refine ⟨⟨_, _, rfl, rfl⟩, ?_⟩)))
    (case kv6_0 => first | k_is | exact (by rfl) | exact FR.size_le (by decide) | decide | (repeat (first | exact True.intro | exact .nil | refine .cons ⟨_, rfl⟩ ?_ | refine ⟨⟨_, _, rfl, rfl⟩, ?_⟩)))
    (case kv6_1 => first | k_is | exact (by rfl) | exact FR.size_le (by decide) | decide | (repeat (first | exact True.intro | exact .nil | refine .cons ⟨_, rfl⟩ ?_ | refine ⟨⟨_, _, rfl, rfl⟩, ?_⟩)))
    (case kv6_2 => first | k_is | exact (by rfl) | exact FR.size_le (by decide) | decide | (repeat (first | exact True.intro | exact .nil | refine .cons ⟨_, rfl⟩ ?_ | refine ⟨⟨_, _, rfl, rfl⟩, ?_⟩)))
    (case kv6_3 => first | k_is | exact (by rfl) | exact FR.size_le (by decide) | decide | (repeat (first | exact True.intro | exact .nil | refine .cons ⟨_, rfl⟩ ?_ | refine ⟨⟨_, _, rfl, rfl⟩, ?_⟩)))
    (case kv6_4 => first | k_is | exact (by rfl) | exact FR.size_le (by decide) | decide | (repeat (first | exact True.intro | exact .nil | refine .cons ⟨_, rfl⟩ ?_ | refine ⟨⟨_, _, rfl, rfl⟩, ?_⟩)))
    (case kv6_5 => first | k_is | exact (by rfl) | exact FR.size_le (by decide) | decide | (repeat (first | exact True.intro | exact .nil | refine .cons ⟨_, rfl⟩ ?_ | refine ⟨⟨_, _, rfl, rfl⟩, ?_⟩)))
    (case q7 => k_is)
    (case q8 => k_is)
    (case z0 => k_is)
    (case z1 => k_is)
    (case z2 => k_is)
    (case z3 => k_is)
    (case z4 => k_is)
    (case z5 => k_is)
    (case z6 => k_is)
    (case z7 => k_is)
    (case z8 => k_is)
    (case z9 => k_is)
    (case z10 => k_is)
    (case z11 => k_is)
    (case z12 => k_is)
    (case z13 => k_is)
    (case z14 => k_is)
    (case z15 => k_is)
