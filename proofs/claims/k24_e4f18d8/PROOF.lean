import PyProof.Rows.All
import Wide.All
import OpenK.AllK
import Wide.FinOn
import HandS.ForMost
import HandS.IsInst
import HandS.Defaults
import HandS.StrMore
import HandS.Flow
import HandS.Codes
import HandS.EndBits
import HandS.Walk
import HandS.Replace
import HandS.Star
import HandS.TupLe
import HandS.ForExc
import HandS.TryMany
import HandS.ExcIs
import HandS.ExcField
import KE.OsGo
import KE.KExcIs
import HandS.Deep
import PyProof.EqKinds
import HandS.SlotsOwn
import KE.KOpsOwn
import HandS.Iter
import HandS.More
import HandS.SetTxt0
import HandS.Zip
import HandS.Conv
import PyProof.ListStr
import HandS.ReplaceDef
import HandS.ReplaceLit
import HandS.ReplaceList
import PyProof.Rows.Range3
import HandS.ClsMeth
import PyProof.P3In
import HandS.TupAny
import HandS.Lambda
import PyProof.CallFns
import PyProof.NeData
import HandS.EndTab
import KE.KUnpackStar
import HandS.DictTup
import KE.KDictList
import KE.KDictItemsList
import HandS.NoneIn
import HandS.Strs
import HandS.SetFor
import PyProof.WalksMore
import PyProof.WalksS
import HandS.Comp
import HandS.SetBool
import HandS.SortKw
import HandS.Style
import PyProof.SumWalk
import OpenK.KMeth
import HandS.DictComp
import PyProof.P3Eq
import HandS.Small
import HandS.Finally
import HandS.MakeKwOnly
import PyProof.InstEq
import PyProof.IsRules
import HandS.ExcOwn
import HandS.OwnEq
import PyProof.NeKinds
import HandS.MethStar
import HandS.Property
import PySem.Challenge.RW_filerights_k24_people_refused
set_option Elab.async false
set_option linter.all false
set_option maxRecDepth 100000
/-! own lemmas over the hand layer: what a def's body holds of the heap -/
namespace FR
open PySem PySem.Spec PyProof.Rows L2 TL
/-- all that was tracked, other than at M, is as it was -/
def Keep (M : List Addr) (H H' : Hp) : Prop := ∀ b o, H b = some o → b ∉ M → H' b = some o
theorem Keep.refl {M : List Addr} {H : Hp} : Keep M H H := fun _ _ h _ => h
theorem Keep.same {H H' : Hp} (k : Keep [] H H') : Same H H' := fun b o h => k b o h (by simp)
theorem Keep.of_same {H H' : Hp} (k : Same H H') : Keep [] H H' := fun b o h _ => k b o h
theorem Keep.free {H H' : Hp} (k : Keep [] H H') {p : Addr} (h : H' p = none) : H p = none := k.same.free h
/-- a body's heap: H0 at its entry, M what it may change, L what it holds -/
structure Ow (H0 : Hp) (M : List Addr) (H : Hp) (L : List (Addr × HO)) : Prop where
  keep : ∀ b o, H0 b = some o → b ∉ M → H b = some o
  has : ∀ p ∈ L, H p.1 = some p.2
  nd : (L.map (·.1)).Nodup
  fr : ∀ p ∈ L, H0 p.1 = none ∨ p.1 ∈ M
section
variable {H0 H H' : Hp} {M : List Addr} {L : List (Addr × HO)} {a p : Addr} {o o' : HO} {K : PySem.W.Frag} {xs : List V}
theorem Ow.start0 : Ow H [] H [] := ⟨fun _ _ h _ => h, fun _ h => by simp at h, by simp, fun _ h => by simp at h⟩
theorem Ow.start1 (h : H a = some o) : Ow H [a] H [(a, o)] := ⟨fun _ _ h _ => h, fun p hp => by simp at hp; subst hp; exact h, by simp, fun p hp => by simp at hp; subst hp; exact .inr (by simp)⟩
theorem Ow.get (W : Ow H0 M H L) (i : Nat) (e : L[i]? = some (a, o)) : H a = some o := W.has _ (List.mem_of_getElem? e)
theorem Ow.new (W : Ow H0 M H L) (h : H p = none) : Ow H0 M (upd H p o) ((p, o) :: L) where
  keep := fun b u e hb => by
    rw [upd_ne (ne_of_none (W.keep b u e hb) h)]
    exact W.keep b u e hb
  has := fun q hq => by
    rcases List.mem_cons.mp hq with rfl | hq
    · exact upd_same
    · rw [upd_ne (ne_of_none (W.has q hq) h)]
      exact W.has q hq
  nd := by
    rw [List.map_cons, List.nodup_cons]
    refine ⟨fun hm => ?_, W.nd⟩
    obtain ⟨q, hq, e⟩ := List.mem_map.mp hm
    have := W.has q hq
    rw [show q.1 = p from e, h] at this
    cases this
  fr := fun q hq => by
    rcases List.mem_cons.mp hq with rfl | hq
    · by_cases hm : p ∈ M
      · exact .inr hm
      · cases e : H0 p with
        | none => exact .inl rfl
        | some u =>
          have := W.keep p u e hm
          rw [h] at this
          cases this
    · exact W.fr q hq
theorem nd_of {α β : Type} [DecidableEq α] : ∀ {L : List (α × β)} {i : Nat} {x : α × β} {q : α × β}, (L.map (·.1)).Nodup → L[i]? = some x → q ∈ L → q.1 = x.1 → q = x
  | [], i, x, q, _, e, _, _ => by simp at e
  | y :: L, 0, x, q, hn, e, hq, h => by
    have e' : y = x := Option.some.inj e
    subst e'
    rcases List.mem_cons.mp hq with r | hq
    · exact r
    · rw [List.map_cons, List.nodup_cons] at hn
      exact absurd (List.mem_map.mpr ⟨q, hq, h⟩) hn.1
  | y :: L, i + 1, x, q, hn, e, hq, h => by
    rw [List.map_cons, List.nodup_cons] at hn
    have e' : L[i]? = some x := e
    rcases List.mem_cons.mp hq with r | hq
    · subst r
      exact absurd (List.mem_map.mpr ⟨x, List.mem_of_getElem? e', h.symm⟩) hn.1
    · exact nd_of hn.2 e' hq h
theorem map_set_fst {α β : Type} : ∀ {L : List (α × β)} {i : Nat} {a : α} {o o' : β}, L[i]? = some (a, o) → (L.set i (a, o')).map (·.1) = L.map (·.1)
  | [], i, a, o, o', e => by simp at e
  | y :: L, 0, a, o, o', e => by
    have e' : y = (a, o) := Option.some.inj e
    subst e'
    rfl
  | y :: L, i + 1, a, o, o', e => by
    have e' : L[i]? = some (a, o) := e
    rw [List.set_cons_succ, List.map_cons, List.map_cons, map_set_fst e']
theorem Ow.any1 (W : Ow H0 M H L) (i : Nat) (e : L[i]? = some (a, o)) (k : Keep [a] H H') (h : H' a = some o') : Ow H0 M H' (L.set i (a, o')) where
  keep := fun b u eb hb => by
    have z := W.keep b u eb hb
    refine k b u z ?_
    intro hm
    have hm' : b = a := by simpa using hm
    subst hm'
    rcases W.fr _ (List.mem_of_getElem? e) with r | r
    · rw [show (b, o).1 = b from rfl, eb] at r; cases r
    · exact hb r
  has := fun q hq => by
    rcases List.mem_or_eq_of_mem_set hq with hq | rfl
    · by_cases ha : q.1 = a
      · have := nd_of (q := q) (by rw [map_set_fst (o' := o') e]; exact W.nd) (show (L.set i (a, o'))[i]? = some (a, o') by
          have hi : i < L.length := (List.getElem?_eq_some_iff.mp e).1
          rw [List.getElem?_set_self hi]) (by assumption) ha
        subst this
        exact h
      · exact k _ _ (W.has q hq) (by simpa using ha)
    · exact h
  nd := by rw [map_set_fst e]; exact W.nd
  fr := fun q hq => by
    rcases List.mem_or_eq_of_mem_set hq with hq | rfl
    · exact W.fr q hq
    · exact (W.fr (a, o) (List.mem_of_getElem? e) : H0 a = none ∨ a ∈ M)
theorem keep_upd {H : Hp} {a : Addr} {o : HO} : Keep [a] H (upd H a o) := fun b u e hb => by
  rw [upd_ne (by simpa using hb)]
  exact e
theorem Ow.set (W : Ow H0 M H L) (i : Nat) (e : L[i]? = some (a, o)) : Ow H0 M (upd H a o') (L.set i (a, o')) := W.any1 i e keep_upd upd_same
/-- a call that changed nothing -/
theorem Ow.call0 (W : Ow H0 M H L) (k : Keep [] H H') : Ow H0 M H' L where
  keep := fun b u e hb => k b u (W.keep b u e hb) (by simp)
  has := fun q hq => k _ _ (W.has q hq) (by simp)
  nd := W.nd
  fr := W.fr
/-- .. and handed back a new object -/
theorem Ow.res (W : Ow H0 M H L) (W' : Ow H0 M H' L) (hp : H p = none) (h : H' p = some o) : Ow H0 M H' ((p, o) :: L) where
  keep := W'.keep
  has := fun q hq => by
    rcases List.mem_cons.mp hq with rfl | hq
    · exact h
    · exact W'.has q hq
  nd := by
    rw [List.map_cons, List.nodup_cons]
    refine ⟨fun hm => ?_, W.nd⟩
    obtain ⟨q, hq, e⟩ := List.mem_map.mp hm
    have := W.has q hq
    rw [show q.1 = p from e, hp] at this
    cases this
  fr := fun q hq => by
    rcases List.mem_cons.mp hq with rfl | hq
    · by_cases hm : p ∈ M
      · exact .inr hm
      · cases e : H0 p with
        | none => exact .inl rfl
        | some u =>
          have := W.keep p u e hm
          rw [hp] at this
          cases this
    · exact W.fr q hq
theorem Ow.tail {q : Addr × HO} (W : Ow H0 M H (q :: L)) : Ow H0 M H L := ⟨W.keep, fun p hp => W.has p (List.mem_cons_of_mem _ hp), (List.nodup_cons.mp W.nd).2, fun p hp => W.fr p (List.mem_cons_of_mem _ hp)⟩
theorem Ow.drop (W : Ow H0 M H L) : Ow H0 M H [] := ⟨W.keep, fun _ h => by simp at h, by simp, fun _ h => by simp at h⟩
theorem Ow.seq (W : Ow H0 M H L) (h : SqL K H0 a xs) (ha : a ∉ M) : SqL K H a xs := by
  rcases h with (h | ⟨o, h⟩) | h
  · exact .inl (.inl (W.keep _ _ h ha))
  · exact .inl (.inr ⟨o, W.keep _ _ h ha⟩)
  · exact .inr h
theorem Ow.sq (W : Ow H0 M H L) (i : Nat) (e : L[i]? = some (a, .lst xs)) : SqL K H a xs := .inl (.inl (W.get i e))
theorem Ow.sqT (W : Ow H0 M H L) (i : Nat) (e : L[i]? = some (a, .tup xs)) : SqT K H a xs := .inl (.inl (W.get i e))
end
/-! ### objects that are made or changed: the heap behind is told by what it keeps -/
structure NewO (o : HO) (Q : VK) (H : Hp) : Prop where
  to : ∀ (p : Addr) (H' : Hp), H p = none → Keep [] H H' → H' p = some o → Q (.ref p) H'
structure MutO (a : Addr) (o : HO) (Q : Hp → Prop) (H : Hp) : Prop where
  to : ∀ H' : Hp, Keep [a] H H' → H' a = some o → Q H'
theorem keep_new {H : Hp} {p : Addr} {o : HO} (np : H p = none) : Keep [] H (upd H p o) := fun b u e _ => by
  rw [upd_ne (ne_of_none e np)]
  exact e
theorem NewO.all {o : HO} {Q : VK} {H : Hp} (h : NewO o Q H) : ∀ p, H p = none → Q (.ref p) (upd H p o) := fun p np => h.to p _ np (keep_new np) upd_same
theorem MutO.at {a : Addr} {o : HO} {Q : Hp → Prop} {H : Hp} (h : MutO a o Q H) : Q (upd H a o) := h.to _ keep_upd upd_same
section
variable {H0 H H' : Hp} {M : List Addr} {L : List (Addr × HO)} {a p : Addr} {o o' : HO} {G : Prop}
theorem with1 (i : Nat) (W : Ow H0 M H L) (e : L[i]? = some (a, o)) (k : Keep [a] H H') (h : H' a = some o') (g : Ow H0 M H' (L.set i (a, o')) → G) : G := g (W.any1 i e k h)
theorem withN (W : Ow H0 M H L) (np : H p = none) (k : Keep [] H H') (h : H' p = some o) (g : Ow H0 M H' ((p, o) :: L) → G) : G := g (W.res (W.call0 k) np h)
theorem with0 (W : Ow H0 M H L) (k : Keep [] H H') (g : Ow H0 M H' L → G) : G := g (W.call0 k)
end
section
variable {X : Cx} {e : Expr} {es : List Expr} {t t' : TE} {ta : TA} {pos : Pos} {K : PySem.W.Frag}
def mA (t : TA) : TA := fun σ H Q => ∃ Q0, t σ H Q0 ∧ ∀ xs H', Q0 xs H' → Q xs H'
theorem pa_m (h : PA X es ta) : PA X es (mA ta) := ⟨fun pos pins s σ H Q I hq => by
  obtain ⟨Q0, h0, hi⟩ := hq
  exact thn (h.run pos pins s σ H Q0 I h0) fun us s1 ⟨xs, H1, I1, r, q⟩ => ⟨xs, H1, I1, r, hi _ _ q⟩⟩
theorem pe_imp (h : PE X e t) (k : ∀ σ H Q, t' σ H Q → t σ H Q) : PE X e t' := ⟨fun pins s σ H Q I q => h.run pins s σ H Q I (k σ H Q q)⟩
def tLstN (t : TA) : TE := fun σ H Q => t σ H fun xs H1 => xs.length ≤ sizeLine ∧ NewO (.lst xs) Q H1
def tTupN (t : TA) : TE := fun σ H Q => t σ H fun xs H1 => xs.length ≤ sizeLine ∧ NewO (.tup xs) Q H1
theorem pe_lstN (h : PA X es ta) : PE X (.List es pos) (tLstN ta) := pe_imp (pe_lst (pa_m h)) fun σ H Q q => ⟨_, q, fun xs H1 z => ⟨z.1, z.2.all⟩⟩
theorem pe_tupN {x1} (h : PA X es ta) : PE X (.Tuple es x1 pos) (tTupN ta) := pe_imp (pe_tup (pa_m h)) fun σ H Q q => ⟨_, q, fun xs H1 z => ⟨z.1, z.2.all⟩⟩
theorem pe_dnewN : PE X (.Dict [] [] pos) (fun _ H Q => NewO (.dK []) Q H) := pe_imp pe_dnewK fun σ H Q q => q.all
def rSetN : V → V → V → Hp → (Hp → Prop) → Prop := fun o i v H Q => ∃ p xs k j, o = .ref p ∧ i = .int k ∧ H p = some (.lst xs) ∧ ixN xs.length k = some j ∧ MutO p (.lst (xs.set j v)) Q H
theorem set_listN : PSet X rSetN := fun pins s σ H o i v ov iv u Q I ro ri rv h => by
  obtain ⟨p, xs, k, j, e1, e2, hp, hj, q⟩ := h
  exact set_list pins s σ H o i v ov iv u Q I ro ri rv ⟨p, xs, k, j, e1, e2, hp, hj, q.at⟩
def rSlN (K : PySem.W.Frag) : V → Option Int → Option Int → Hp → VK → Prop := fun x lo hi H Q => ∃ a xs, x = .ref a ∧ SqL K H a xs ∧ NewO (.lst (cutV xs lo hi)) Q H
theorem sl_listN : SlR X (rSlN X.K) := fun pins s σ H x v vl vu lo hi sl Q I rx hs pl pu h => by
  obtain ⟨a, xs, e, hx, q⟩ := h
  exact sl_list pins s σ H x v vl vu lo hi sl Q I rx hs pl pu ⟨a, xs, e, hx, q.all⟩
def rCatN : R2 := fun x y H Q => ∃ l b xs zs, x = .ref l ∧ y = .ref b ∧ H l = some (.lst xs) ∧ H b = some (.lst zs) ∧ xs.length + zs.length ≤ sizeLine ∧ NewO (.lst (xs ++ zs)) Q H
theorem op_catN : OpR X (binaryOp .Add) rCatN := fun pins s σ H x y v u Q I rx ry h => by
  obtain ⟨l, b, xs, zs, e1, e2, hl, hb, hz, q⟩ := h
  exact op_cat pins s σ H x y v u Q I rx ry ⟨l, b, xs, zs, e1, e2, hl, hb, hz, q.all⟩
def rAppN : V → List V → Hp → VK → Prop := fun x vs H Q => ∃ l xs y, x = .ref l ∧ vs = [y] ∧ H l = some (.lst xs) ∧ xs.length < sizeLine ∧ MutO l (.lst (xs ++ [y])) (Q .non) H
theorem mt_appN : MtR X "list.append" rAppN := fun pins s σ H x xs v us Q I rx rv h => by
  obtain ⟨l, ys, y, e1, e2, hl, hz, q⟩ := h
  exact mt_append pins s σ H x xs v us Q I rx rv ⟨l, ys, y, e1, e2, hl, hz, q.at⟩
def rSplN : V → List V → Hp → VK → Prop := fun x xs H Q => ∃ a b, x = .str a ∧ xs = [.str b] ∧ (b.length == 0) = false ∧ a.length + 2 ≤ sizeLine ∧ NewO (.lst ((Txt.split a b).map V.str)) Q H
theorem mt_splN : MtR X "str.split" rSplN := fun pins s σ H x xs v us Q I rx rv h => by
  obtain ⟨a, b, e1, e2, h1, h2, q⟩ := h
  exact mt_split pins s σ H x xs v us Q I rx rv ⟨a, b, e1, e2, h1, h2, q.all⟩
def rLofN (K : PySem.W.Frag) : List V → Hp → VK → Prop := fun xs H Q => ∃ p ys, xs = [.ref p] ∧ (SqL K H p ys ∨ SqT K H p ys) ∧ NewO (.lst ys) Q H
theorem call_lofN : CallR X (.type "list") (rLofN X.K) := fun pins s σ H xs us Q I r h => by
  obtain ⟨p, ys, e, hs, q⟩ := h
  exact call_list_of pins s σ H xs us Q I r ⟨p, ys, e, hs, q.all⟩
end
/-! ### calls with keywords of a def without defaults by place -/
section
variable {K : PySem.W.Frag} {x qual : Str} {params : Arguments} {body : List Stmt} {scope : Scope} {kws : List (Str × V)} {f : Addr} {fd : FuncData} {ps : List Str}
theorem kb0 (F : FunD K x qual params body scope [] kws f fd) (n : Nat) (ks : List Str) (ms : List (Str × V)) (g : {α : Type} → List α → List α → List α → List α) (hk : kws ≠ []) (hms : ∀ q ∈ ms, q ∈ kws)
    (hrel : ∀ {vs mz zs : List V} {us mv ws : List Value}, Vals vs us → Vals mz mv → Vals zs ws → Vals (g vs mz zs) (g us mv ws))
    (h : ∀ (D : Addr) (doc pm : Value) (an : Option Addr) (cdv ct : Value) (us mv ws : List Value), us.length = n → mv.length = ms.length → ws.length = ks.length →
      KwChain D ((ms.map (·.1)).zip mv) (bindArgs (PySem.W.fnOf x qual params body scope .none (.ref D) doc pm an cdv ct) ⟨us, ks.zip ws⟩) (ps.zip (g us mv ws))) :
    ∃ mv : List Value, KBn K fd ps n ks (fun us ws => g us mv ws) (fun vs zs => g vs (ms.map (·.2)) zs) := by
  obtain ⟨oc, od, dV, kV, doc, pm, an, cdv, ct, osl, rfl, lk, hcd, hD, hK⟩ := F.ex
  rcases hD with ⟨_, rfl⟩ | ⟨e, _⟩
  · rcases hK with e | ⟨D, rfl, hq⟩
    · exact absurd e hk
    · obtain ⟨mv, hl, rk, hks⟩ := kwd_vals (ms := ms) fun q hm => hq q (hms q hm)
      exact ⟨mv, fun s us ws X l1 l2 => BindsTo.of_looks fun M => KwChain.looks X hks (h D doc pm an cdv ct us mv ws l1 hl l2), fun r1 r2 => hrel r1 rk r2⟩
  · exact absurd rfl e
end
section
variable {X : Cx} {CX : CXT} {k : Nat} {f : Addr} {fd : FuncData} {ps ks : List Str} {sp : Sp} {E : XK} {x : Str} {p pos : Pos} {kws : List Keyword} {tk : TA} {g : List Value → List Value → List Value} {gV : List V → List V → List V}
theorem pe_callN0 (F : FnOk X.prog X.w X.K X.mg X.base CX k f fd ps sp) (hr : Room k X.A) (hg : Gl X x) (hm : X.mg x = some (.ref f)) (hk : PySem.W.keepIn X.K (.ref f) = true) (hb : KBn X.K fd ps 0 ks g gV) (hx : Passes CX X E) (hkw : PK X kws tk)
    (hall : (backToKw pos (keywordEach kws X.env)).all (·.1.isSome) = true := by rfl) (hks : (backToKw pos (keywordEach kws X.env)).filterMap (·.1) = ks := by rfl) (hdb : (x == ("__debug__" : Str)) = false := by decide)
    (hpl : ((backTo pos (starEach [] X.env)).any (·.1) || (backToKw pos (keywordEach kws X.env)).any (·.1.isNone)) = false := by rfl) : PE X (.Call (.Name x p) [] kws pos) (tCallN 0 ks.length sp gV E tNil tk) := ⟨fun pins s σ H Q I h => by
  refine wpAny_Call_Name_kw (ld_glob I hg hm (PySem.W.callWith_KW0 (h₀ := X.base) I.ok.mod.kin hk hall ?_ hpl) hdb)
  refine thn (hkw.run pos pins s σ H _ I h) fun ws s2 hz => ?_
  obtain ⟨zs, H2, I2, rz, l1, l2, q2⟩ := hz
  refine ⟨I2.kIn, ?_⟩
  rw [hks]
  exact run_fnN (us := []) (vs := []) F hr hb hx I2 .nil rz rfl l2 q2⟩
end
/-! ### tests -/
section
variable {A B : Prop}
theorem ifT {b : Bool} (h : b = true) (a : A) : if b = true then A else B := by rw [if_pos h]; exact a
theorem ifF {b : Bool} (h : b = false) (a : B) : if b = true then A else B := by rw [h, if_neg Bool.false_ne_true]; exact a
theorem ifB {b : Bool} (h1 : b = true → A) (h2 : b = false → B) : if b = true then A else B := by
  cases b
  · exact ifF rfl (h2 rfl)
  · exact ifT rfl (h1 rfl)
theorem ifNB {b : Bool} (h1 : b = false → A) (h2 : b = true → B) : if (!b) = true then A else B := by
  cases b
  · exact ifT rfl (h1 rfl)
  · exact ifF rfl (h2 rfl)
theorem ifD {p : Prop} [Decidable p] (h1 : p → A) (h2 : ¬ p → B) : if decide p = true then A else B := by
  by_cases h : p
  · exact ifT (decide_eq_true h) (h1 h)
  · exact ifF (decide_eq_false h) (h2 h)
theorem ifN {p : Prop} [Decidable p] (h1 : ¬ p → A) (h2 : p → B) : if (!decide p) = true then A else B := by
  by_cases h : p
  · exact ifF (by rw [decide_eq_true h]; rfl) (h2 h)
  · exact ifT (by rw [decide_eq_false h]; rfl) (h1 h)
theorem ifQ {b : Bool} {p : Prop} [Decidable p] (h : b = decide p) (h1 : p → A) (h2 : ¬ p → B) : if b = true then A else B := by
  rw [h]
  exact ifD h1 h2
theorem ifVI {i j : Int} (h1 : i = j → A) (h2 : i ≠ j → B) : if decide (V.int i = V.int j) = true then A else B := ifD (fun h => h1 (V.int.inj h)) fun h => h2 fun e => h (by rw [e])
theorem ifVIn {i j : Int} (h1 : i ≠ j → A) (h2 : i = j → B) : if (!decide (V.int i = V.int j)) = true then A else B := ifN (fun h => h1 fun e => h (by rw [e])) fun h => h2 (V.int.inj h)
theorem ifVS {i j : Str} (h1 : i = j → A) (h2 : i ≠ j → B) : if decide (V.str i = V.str j) = true then A else B := ifD (fun h => h1 (V.str.inj h)) fun h => h2 fun e => h (by rw [e])
theorem ifVSn {i j : Str} (h1 : i ≠ j → A) (h2 : i = j → B) : if (!decide (V.str i = V.str j)) = true then A else B := ifN (fun h => h1 fun e => h (by rw [e])) fun h => h2 (V.str.inj h)
end
/-! ### isinstance -/
theorem isi {K : PySem.W.Frag} {H : Hp} {Q : VK} {x : V} {t c : String} {b : Bool} (ty : TyX K H x (.type t)) (k : kitB t c = some b) (q : Q (.bl b) H) : rIsi K [x, .ty c] H Q := ⟨x, .ty c, .type t, .type c, b, rfl, .ty c, ty, kit_ty k, q⟩
theorem call_isiK {X : Cx} {K : PySem.W.Frag} (h : X.K = K) : CallR X (.builtin "isinstance") (rIsi K) := h ▸ call_isi
theorem ki_int_str : kitB "int" "str" = some false := by decide +kernel
theorem ki_int_int : kitB "int" "int" = some true := by decide +kernel
theorem ki_int_bool : kitB "int" "bool" = some false := by decide +kernel
theorem ki_int_list : kitB "int" "list" = some false := by decide +kernel
theorem ki_int_tuple : kitB "int" "tuple" = some false := by decide +kernel
theorem ki_int_dict : kitB "int" "dict" = some false := by decide +kernel
theorem ki_str_str : kitB "str" "str" = some true := by decide +kernel
theorem ki_str_int : kitB "str" "int" = some false := by decide +kernel
theorem ki_str_bool : kitB "str" "bool" = some false := by decide +kernel
theorem ki_str_list : kitB "str" "list" = some false := by decide +kernel
theorem ki_str_tuple : kitB "str" "tuple" = some false := by decide +kernel
theorem ki_str_dict : kitB "str" "dict" = some false := by decide +kernel
theorem ki_bl_str : kitB "bool" "str" = some false := by decide +kernel
theorem ki_bl_int : kitB "bool" "int" = some true := by decide +kernel
theorem ki_bl_bool : kitB "bool" "bool" = some true := by decide +kernel
theorem ki_bl_list : kitB "bool" "list" = some false := by decide +kernel
theorem ki_bl_tuple : kitB "bool" "tuple" = some false := by decide +kernel
theorem ki_bl_dict : kitB "bool" "dict" = some false := by decide +kernel
theorem ki_non_str : kitB "NoneType" "str" = some false := by decide +kernel
theorem ki_non_int : kitB "NoneType" "int" = some false := by decide +kernel
theorem ki_non_bool : kitB "NoneType" "bool" = some false := by decide +kernel
theorem ki_non_list : kitB "NoneType" "list" = some false := by decide +kernel
theorem ki_non_tuple : kitB "NoneType" "tuple" = some false := by decide +kernel
theorem ki_non_dict : kitB "NoneType" "dict" = some false := by decide +kernel
theorem ki_lst_str : kitB "list" "str" = some false := by decide +kernel
theorem ki_lst_int : kitB "list" "int" = some false := by decide +kernel
theorem ki_lst_bool : kitB "list" "bool" = some false := by decide +kernel
theorem ki_lst_list : kitB "list" "list" = some true := by decide +kernel
theorem ki_lst_tuple : kitB "list" "tuple" = some false := by decide +kernel
theorem ki_lst_dict : kitB "list" "dict" = some false := by decide +kernel
theorem ki_tup_str : kitB "tuple" "str" = some false := by decide +kernel
theorem ki_tup_int : kitB "tuple" "int" = some false := by decide +kernel
theorem ki_tup_bool : kitB "tuple" "bool" = some false := by decide +kernel
theorem ki_tup_list : kitB "tuple" "list" = some false := by decide +kernel
theorem ki_tup_tuple : kitB "tuple" "tuple" = some true := by decide +kernel
theorem ki_tup_dict : kitB "tuple" "dict" = some false := by decide +kernel
theorem ki_dK_str : kitB "dict" "str" = some false := by decide +kernel
theorem ki_dK_int : kitB "dict" "int" = some false := by decide +kernel
theorem ki_dK_bool : kitB "dict" "bool" = some false := by decide +kernel
theorem ki_dK_list : kitB "dict" "list" = some false := by decide +kernel
theorem ki_dK_tuple : kitB "dict" "tuple" = some false := by decide +kernel
theorem ki_dK_dict : kitB "dict" "dict" = some true := by decide +kernel
/-- the generator of a law's numbers: at b a list of three numbers, the last at most n -/
def bagO (x y z : Int) : HO := .lst [.int x, .int y, .int z]
structure BagOk (n : Nat) (x y z : Int) : Prop where
  x0 : 0 ≤ x
  y0 : 0 ≤ y
  y1 : y < 2147483648
  z0 : 0 ≤ z
  z1 : z ≤ (n : Int)
theorem BagOk.mono {n m : Nat} {x y z : Int} (h : BagOk n x y z) (e : n ≤ m) : BagOk m x y z := ⟨h.x0, h.y0, h.y1, h.z0, by have := h.z1; omega⟩
/-- take(bag, k): a number below k; the bag is changed, by one count at the most -/
def spTake : Sp := fun vs H Q _ => ∃ (b : Addr) (k : Int) (n : Nat) (x y z : Int), vs = [.ref b, .int k] ∧ H b = some (bagO x y z) ∧ BagOk n x y z ∧ n < 1000000 ∧ 0 < k ∧ k < 1073741824 ∧
  ∀ (d x' y' z' : Int) (H' : Hp), 0 ≤ d → d < k → BagOk (n + 1) x' y' z' → Keep [b] H H' → H' b = some (bagO x' y' z') → Q (.int d) H'
theorem atI_in {α : Type} {xs : List α} {d : Int} (h0 : 0 ≤ d) (h1 : d < (xs.length : Int)) : ∃ v, atI xs d = some v ∧ v ∈ xs := by
  obtain ⟨k, rfl⟩ := Int.eq_ofNat_of_zero_le h0
  have hk : k < xs.length := by omega
  exact ⟨xs[k], atI_nat (List.getElem?_eq_getElem hk), List.getElem_mem hk⟩
theorem size_ok {n : Nat} (h : n ≤ 1000000) : n < sizeLine := Nat.lt_of_le_of_lt h (by decide)
theorem size_le {n : Nat} (h : n ≤ 1000000) : n ≤ sizeLine := Nat.le_of_lt (size_ok h)
/-! ### texts by their codes -/
theorem len_app (x y : Str) : (x ++ y).length = x.length + y.length := by rw [len_tl, len_tl, len_tl, tl_append, List.length_append]
theorem joinL_nil : ∀ ps : List (List Nat), joinL [] ps = ps.flatten
  | [] => rfl
  | [p] => by simp [joinL]
  | p :: q :: r => by
    have ih := joinL_nil (q :: r)
    show p ++ ([] ++ joinL [] (q :: r)) = _
    rw [ih]
    simp
theorem tl_joinE (ss : List Str) : tl (Txt.join (Str.ofString "") ss) = (ss.map tl).flatten := by
  rw [join_eq, tl_join, show tl (Str.ofString "") = [] by decide +kernel, joinL_nil]
theorem sum_one : ∀ {ss : List Str}, (∀ s ∈ ss, s.length = 1) → (ss.map (·.length)).sum = ss.length
  | [], _ => rfl
  | s :: r, h => by
    rw [List.map_cons, List.sum_cons, sum_one fun t ht => h t (List.mem_cons_of_mem _ ht), h s List.mem_cons_self, List.length_cons]
    omega
theorem flat_one : ∀ {ss : List Str}, (∀ s ∈ ss, s.length = 1) → (ss.map tl).flatten.length = ss.length
  | [], _ => rfl
  | s :: r, h => by
    have h1 := h s List.mem_cons_self
    rw [len_tl] at h1
    rw [List.map_cons, List.flatten_cons, List.length_append, flat_one fun t ht => h t (List.mem_cons_of_mem _ ht), List.length_cons, h1]
    omega
theorem join_one {ss : List Str} (h : ∀ s ∈ ss, s.length = 1) : (Txt.join (Str.ofString "") ss).length = ss.length := by rw [len_tl, tl_joinE, flat_one h]
theorem tl_cutS (z : Str) (lo hi : Option Int) : tl (cutS z lo hi) = ((tl z).drop (HT.sIx z.length 0 lo)).take (HT.sIx z.length z.length hi - HT.sIx z.length 0 lo) := rfl
theorem cutS_len (z : Str) (lo hi : Option Int) : (cutS z lo hi).length ≤ z.length := by
  rw [len_tl, tl_cutS, List.length_take, List.length_drop, len_tl z]
  omega
theorem starts_one (x : Str) (c : Nat) : Txt.startswith x ⟨#[c]⟩ = true ↔ (tl x)[0]? = some c := by
  unfold Txt.startswith
  rw [Bool.and_eq_true, decide_eq_true_eq]
  exact PySem.StrLaws.subAt_one x c 0
/-! ### texts of plain signs -/
def Asc (s : Str) : Prop := ∀ c ∈ tl s, c < 128
theorem Asc.app {x y : Str} (a : Asc x) (b : Asc y) : Asc (x ++ y) := fun c hc => by
  rw [tl_append] at hc
  rcases List.mem_append.mp hc with h | h
  · exact a c h
  · exact b c h
theorem Asc.cut {x : Str} (a : Asc x) (lo hi : Option Int) : Asc (cutS x lo hi) := fun c hc => a c (List.mem_of_mem_drop (List.mem_of_mem_take (by rw [tl_cutS] at hc; exact hc)))
theorem Asc.one {c : Nat} (h : c < 128) : Asc ⟨#[c]⟩ := fun d hd => by
  have : d = c := by simpa using hd
  omega
theorem Asc.of {x : Str} (h : (tl x).all (fun c => decide (c < 128)) = true) : Asc x := fun c hc => by simpa using List.all_eq_true.mp h c hc
theorem Asc.joined {S : List Nat} : ∀ {ps : List (List Nat)}, (∀ c ∈ S, c < 128) → (∀ p ∈ ps, ∀ c ∈ p, c < 128) → ∀ c ∈ joinL S ps, c < 128
  | [], _, _, c, h => by simp [joinL] at h
  | [p], _, hp, c, h => hp p List.mem_cons_self c h
  | p :: q :: r, hS, hp, c, h => by
    rcases List.mem_append.mp (show c ∈ p ++ (S ++ joinL S (q :: r)) from h) with h | h
    · exact hp p List.mem_cons_self c h
    · rcases List.mem_append.mp h with h | h
      · exact hS c h
      · exact Asc.joined hS (fun t ht => hp t (List.mem_cons_of_mem _ ht)) c h
theorem Asc.join {y : Str} {ss : List Str} (a : Asc y) (h : ∀ s ∈ ss, Asc s) : Asc (Txt.join y ss) := by
  unfold Asc
  rw [join_eq, tl_join]
  refine Asc.joined a fun p hp => ?_
  obtain ⟨s, hs, rfl⟩ := List.mem_map.mp hp
  exact h s hs
theorem joinL_len (S : List Nat) : ∀ (ps : List (List Nat)), (joinL S ps).length ≤ (ps.map (·.length)).sum + ps.length * S.length
  | [] => by simp [joinL]
  | [p] => by simp [joinL]
  | p :: q :: r => by
    have ih := joinL_len S (q :: r)
    show (p ++ (S ++ joinL S (q :: r))).length ≤ _
    rw [List.length_append, List.length_append, List.map_cons, List.sum_cons, List.length_cons, Nat.add_one_mul]
    omega
theorem join_len (y : Str) (ss : List Str) : (Txt.join y ss).length ≤ (ss.map (·.length)).sum + ss.length * y.length := by
  have h := joinL_len (tl y) (ss.map tl)
  rw [join_eq, len_tl, tl_join, len_tl y]
  rw [List.length_map, List.map_map] at h
  rw [show ss.map (fun x => x.length) = ss.map ((fun x => x.length) ∘ tl) from List.map_congr_left fun s _ => len_tl s]
  exact h
theorem sum_le {ss : List Str} {k : Nat} (h : ∀ s ∈ ss, s.length ≤ k) : (ss.map (·.length)).sum ≤ ss.length * k := by
  induction ss with
  | nil => simp
  | cons s r ih =>
    rw [List.map_cons, List.sum_cons, List.length_cons, Nat.add_one_mul]
    have h1 := h s List.mem_cons_self
    have h2 := ih fun t ht => h t (List.mem_cons_of_mem _ ht)
    omega
theorem str_ok {s : Str} (a : Asc s) : PyData.strOk s = true := by
  unfold PyData.strOk
  rw [show s.cps.all (fun x => decide (x < 0x110000)) = (tl s).all (fun x => decide (x < 0x110000)) by simp]
  exact List.all_eq_true.mpr fun c hc => decide_eq_true (Nat.lt_trans (a c hc) (by decide))
def dStrs (ws : List Str) : PyData := .list (ws.map .str)
theorem lay_strs : ∀ {ws : List Str}, (∀ s ∈ ws, Asc s) → PyData.canLayAll0 (ws.map .str) = true
  | [], _ => rfl
  | s :: r, h => by
    rw [List.map_cons, PyData.canLayAll0, PyData.canLay0, str_ok (h s List.mem_cons_self), lay_strs fun t ht => h t (List.mem_cons_of_mem _ ht)]
    rfl
theorem depth_strs : ∀ ws : List Str, PyData.depthAll (ws.map .str) = 0
  | [] => rfl
  | s :: r => by rw [List.map_cons, PyData.depthAll, PyData.depth, depth_strs r]; rfl
theorem shaped_strs {ws : List Str} (h : ∀ s ∈ ws, Asc s) : SeqAt.shaped (dStrs ws) = true := by
  unfold SeqAt.shaped dStrs
  rw [PyData.canLay0, lay_strs h, PyData.depth, depth_strs]
  rfl
theorem dpAll_strs {K : PySem.W.Frag} {H : Hp} : ∀ ws : List Str, DpAll K H (ws.map V.str) (ws.map .str)
  | [] => .nil
  | s :: r => .cons (.str s) (dpAll_strs r)
theorem dp_strs {K : PySem.W.Frag} {H : Hp} {a : Addr} {ws : List Str} (h : SqL K H a (ws.map V.str)) : Dp K H (.ref a) (dStrs ws) := .lst h (dpAll_strs ws)
theorem eqv_strs : ∀ ws : List Str, PyData.eqvAll (ws.map .str) (ws.map .str) = true
  | [] => rfl
  | s :: r => by rw [List.map_cons, PyData.eqvAll, eqv_strs r, PyData.eqv]; simp
theorem eqv_dstrs (ws : List Str) : PyData.eqv (dStrs ws) (dStrs ws) = true := by
  unfold dStrs
  rw [PyData.eqv, eqv_strs]
theorem in_strs (x : Str) : ∀ ws : List Str, inV (.str x) (ws.map V.str) = decide (x ∈ ws)
  | [] => rfl
  | s :: r => by
    have ih := in_strs x r
    unfold inV at ih ⊢
    rw [List.map_cons, List.any_cons, ih]
    show ((s == x) || decide (x ∈ r)) = _
    by_cases h : s = x
    · subst h; simp
    · simp [h, Ne.symm h]
theorem flat_strs (ws : List Str) : (ws.map V.str).all flatV = true := by
  rw [List.all_map]
  exact List.all_eq_true.mpr fun _ _ => rfl
/-- keywords at a call of a def without defaults -/
theorem kbF {K : PySem.W.Frag} {x qual : Str} {st : Stmt} {f : Addr} {fd : FuncData} {ps : List Str} (F : Fun K x qual st f fd) (n : Nat) (ks : List Str) (g : {α : Type} → List α → List α → List α)
    (hrel : ∀ {vs zs : List V} {us ws : List Value}, Vals vs us → Vals zs ws → Vals (g vs zs) (g us ws))
    (h : ∀ (kV doc pm : Value) (an : Option Addr) (cdv ct : Value) (us ws : List Value), us.length = n → ws.length = ks.length →
      bindArgs (PySem.W.fnOf x qual (defArgs st) (defBody st) (defScope st) .none kV doc pm an cdv ct) ⟨us, ks.zip ws⟩ = pure (ps.zip (g us ws))) : KBn K fd ps n ks (fun us ws => g us ws) (fun vs zs => g vs zs) := by
  obtain ⟨oc, od, kV, doc, pm, an, cdv, ct, osl, rfl, lk, hcd⟩ := F.ex
  exact ⟨fun s us ws X l1 l2 => .of_eq (h kV doc pm an cdv ct us ws l1 l2), fun r1 r2 => hrel r1 r2⟩
/-- isinstance(x, (a, b)) -/
theorem kit2 {K : PySem.W.Frag} {t a b : String} {r1 r2 : Bool} (h1 : kitB t a = some r1) (h2 : kitB t b = some r2) : PySem.W.kitAny K (.type t) [.type a, .type b] = some (r1 || r2) := by
  refine kitAny_cons (kit_ty h1) (fun e => ?_) (fun e => by rw [e]; rfl)
  subst e
  refine kitAny_cons (kit_ty h2) (fun e => by rw [e]; rfl) (fun e => by rw [e]; rfl)
theorem eqv_nil : ∀ ws : List Str, PyData.eqv (dStrs ws) (dStrs []) = decide (ws = [])
  | [] => rfl
  | s :: r => rfl
/-! ### signs as texts -/
def sg (l : List Nat) : List Str := l.map fun d => ⟨#[d]⟩
theorem sg_one {l : List Nat} : ∀ s ∈ sg l, s.length = 1 := fun s hs => by
  obtain ⟨d, _, rfl⟩ := List.mem_map.mp hs
  rfl
theorem sg_len (l : List Nat) : (sg l).length = l.length := List.length_map _
theorem sg_asc {l : List Nat} (h : ∀ c ∈ l, c < 128) : ∀ s ∈ sg l, Asc s := fun s hs => by
  obtain ⟨d, hd, rfl⟩ := List.mem_map.mp hs
  exact Asc.one (h d hd)
theorem tl_join_sg : ∀ l : List Nat, ((sg l).map tl).flatten = l
  | [] => rfl
  | c :: r => by
    have ih := tl_join_sg r
    show ([c] ++ ((sg r).map tl).flatten) = c :: r
    rw [ih]
    rfl
theorem sg_app (l : List Nat) (c : Nat) : (sg (l ++ [c])).map V.str = (sg l).map V.str ++ [.str ⟨#[c]⟩] := by
  unfold sg
  rw [List.map_append, List.map_append]
  rfl
theorem chr_inj {c d : Nat} (h : (⟨#[c]⟩ : Str) = ⟨#[d]⟩) : c = d := by
  have := congrArg tl h
  simpa using this
theorem ifC {A B : Prop} {c d : Nat} (h1 : c = d → A) (h2 : c ≠ d → B) : if decide (V.str ⟨#[c]⟩ = V.str ⟨#[d]⟩) = true then A else B := ifVS (fun h => h1 (chr_inj h)) fun h => h2 fun e => h (by rw [e])
theorem ifCn {A B : Prop} {c d : Nat} (h1 : c ≠ d → A) (h2 : c = d → B) : if (!decide (V.str ⟨#[c]⟩ = V.str ⟨#[d]⟩)) = true then A else B := ifVSn (fun h => h1 fun e => h (by rw [e])) fun h => h2 (chr_inj h)
theorem filt_in {pre : List Nat} {c d : Nat} (h : d ≠ c) : (pre ++ [d]).filter (fun x => decide (x ≠ c)) = pre.filter (fun x => decide (x ≠ c)) ++ [d] := by
  rw [List.filter_append, List.filter_cons, if_pos (by simpa using h)]
  rfl
theorem filt_out {pre : List Nat} {c d : Nat} (h : d = c) : (pre ++ [d]).filter (fun x => decide (x ≠ c)) = pre.filter (fun x => decide (x ≠ c)) := by
  rw [List.filter_append, List.filter_cons, if_neg (by simpa using h)]
  simp
theorem filt_asc {l : List Nat} {p : Nat → Bool} (h : ∀ c ∈ l, c < 128) : ∀ c ∈ l.filter p, c < 128 := fun c hc => h c (List.mem_filter.mp hc).1
theorem tl_joined_sg (l : List Nat) : tl (Txt.join (Str.ofString "") (sg l)) = l := by rw [tl_joinE, tl_join_sg]
/-! ### a text split at a sign -/
theorem split_tl (s : Str) {c : Nat} (h : c < 256) : (Txt.split s ⟨#[c]⟩).map tl = spl [c] 0 [] (tl s) := split_spl s ⟨#[c]⟩ (by simp) (kind_ok (by simpa using h))
theorem spl_asc : ∀ (l acc : List Nat) (c : Nat), (∀ d ∈ l, d < 128) → (∀ d ∈ acc, d < 128) → ∀ p ∈ spl [c] 0 acc l, ∀ d ∈ p, d < 128
  | [], acc, c, _, ha, p, hp, d, hd => by
    rw [spl_nil] at hp
    rw [List.mem_singleton.mp hp] at hd
    exact ha d hd
  | x :: r, acc, c, hl, ha, p, hp, d, hd => by
    have hr : ∀ d ∈ r, d < 128 := fun d h => hl d (List.mem_cons_of_mem _ h)
    by_cases e : pre [c] (x :: r) = true
    · rw [spl_hit e] at hp
      rcases List.mem_cons.mp hp with rfl | hp
      · exact ha d hd
      · exact spl_asc r [] c hr (fun _ h => by simp at h) p hp d hd
    · rw [spl_miss (by simpa using e)] at hp
      refine spl_asc r (acc ++ [x]) c hr (fun d h => ?_) p hp d hd
      rcases List.mem_append.mp h with h | h
      · exact ha d h
      · rw [List.mem_singleton.mp h]; exact hl x List.mem_cons_self
theorem split_asc {s : Str} {c : Nat} (h : c < 256) (a : Asc s) : ∀ w ∈ Txt.split s ⟨#[c]⟩, Asc w := fun w hw => by
  have : tl w ∈ (Txt.split s ⟨#[c]⟩).map tl := List.mem_map_of_mem hw
  rw [split_tl s h] at this
  exact spl_asc (tl s) [] c a (fun _ h => by simp at h) _ this
theorem spl_len : ∀ (l acc : List Nat) (c : Nat), (spl [c] 0 acc l).length ≤ l.length + 1
  | [], acc, c => by rw [spl_nil]; simp
  | x :: r, acc, c => by
    by_cases e : pre [c] (x :: r) = true
    · rw [spl_hit e, List.length_cons, List.length_cons]
      have := spl_len r [] c
      exact Nat.succ_le_succ this
    · rw [spl_miss (by simpa using e), List.length_cons]
      have := spl_len r (acc ++ [x]) c
      omega
theorem split_len {s : Str} {c : Nat} (h : c < 256) : (Txt.split s ⟨#[c]⟩).length ≤ s.length + 1 := by
  have := spl_len (tl s) [] c
  rw [← split_tl s h, List.length_map] at this
  rw [len_tl]
  exact this
theorem pre_one {c x : Nat} {r : List Nat} : pre [c] (x :: r) = decide (x = c) := by
  unfold pre
  by_cases h : x = c <;> simp [h]
/-! ### text * number -/
theorem op_mul_str {X : Cx} : OpR X (binaryOp .Mult) (fun x y H Q => ∃ i j, x = .str i ∧ y = .int j ∧ (0 ≤ j ∧ j ≤ 10000 ∧ i.length ≤ 1000) ∧ Q (.str (Txt.mul i j)) H) := fun pins s σ H x y v u Q I rx ry h => by
  obtain ⟨i, j, rfl, rfl, ⟨h0, h1, h2⟩, q⟩ := h
  obtain ⟨t, rfl⟩ := rx
  obtain ⟨t', rfl⟩ := ry
  refine SB.mul ⟨?_, fun h3 h4 => ?_, fun h3 h4 => ?_⟩ fun t' k => ⟨.str (Txt.mul i j), H, I.tok _, ⟨_, rfl⟩, q⟩
  · simp
    omega
  · have h5 : (i.length : Int) * j ≤ 1000 * 10000 := Int.mul_le_mul (by omega) h1 h0 (by decide)
    have h6 : (i.length : Int) ≤ (2 ^ 63 - 1) / j := Int.le_ediv_of_mul_le (by omega) (by omega)
    omega
  · have h5 : i.length * j.toNat ≤ 1000 * 10000 := Nat.mul_le_mul h2 (by omega)
    have h6 : i.length * j.toNat ≤ sizeLine := Nat.le_trans h5 (by decide)
    unfold Builtin.Str.tooLong
    exact decide_eq_false (by omega)
theorem fold_cps (a : Array Nat) : ∀ (k : Nat) (acc : Array Nat), ((List.replicate k a).foldl (fun x y => x ++ y) acc).toList = acc.toList ++ (List.replicate k a.toList).flatten
  | 0, acc => by simp
  | k + 1, acc => by
    rw [List.replicate_succ, List.foldl_cons, fold_cps a k, List.replicate_succ, List.flatten_cons, Array.toList_append, List.append_assoc]
theorem flat_nil : ∀ k : Nat, (List.replicate k ([] : List Nat)).flatten = []
  | 0 => rfl
  | k + 1 => by rw [List.replicate_succ, List.flatten_cons, flat_nil k]; rfl
theorem tl_mul (x : Str) (n : Int) : tl (Txt.mul x n) = (List.replicate n.toNat (tl x)).flatten := by
  unfold Txt.mul
  split
  · rename_i h
    rw [show n.toNat = 0 by omega]
    rfl
  · split
    · rename_i h1 h2
      rcases Bool.or_eq_true_iff.mp h2 with h | h
      · have : n = 1 := by simpa using h
        subst this
        simp
      · have h3 : x.length = 0 := by simpa using h
        rw [len_tl] at h3
        rw [List.length_eq_zero_iff.mp h3, flat_nil]
    · show ((List.replicate n.toNat x.cps).foldl (fun x y => x ++ y) #[]).toList = _
      rw [fold_cps]
      rfl
theorem mul_len (x : Str) (n : Int) : (Txt.mul x n).length = x.length * n.toNat := by
  rw [len_tl, tl_mul, List.length_flatten, List.map_replicate, List.sum_replicate_nat, len_tl, Nat.mul_comm]
theorem Asc.mul {x : Str} (a : Asc x) (n : Int) : Asc (Txt.mul x n) := fun c hc => by
  rw [tl_mul] at hc
  obtain ⟨l, hl, hc⟩ := List.mem_flatten.mp hc
  rw [List.eq_of_mem_replicate hl] at hc
  exact a c hc
/-! ### loops by what is behind -/
section
variable {g : TG} {tb : TS} {D : Ends} {σ : L2.St} {H : Hp}
theorem for_str {s : Str} (Pv : List Nat → L2.St → Hp → Prop) (h0 : Pv [] σ H)
    (hs : ∀ pre c post σ H, tl s = pre ++ c :: post → Pv pre σ H → g (.str ⟨#[c]⟩) σ H fun σ2 H2 => tb { D with nx := Pv (pre ++ [c]), ct := Pv (pre ++ [c]), bk := D.nx } σ2 H2) (hd : ∀ σ H, Pv (tl s) σ H → D.nx σ H) :
    ∃ W : Nat → Nat → L2.St → Hp → Prop, (∃ m, W 0 m σ H) ∧ ∀ i m σ H, W i m σ H →
      ((Its s).stop i H ∧ D.nx σ H) ∨ ((Its s).go i H ∧ ∃ N : L2.St → Hp → Prop, (∀ σ' H', N σ' H' → ∃ m', m' < m ∧ W (i + 1) m' σ' H') ∧ ∀ x H', (Its s).yld i H x H' → g x σ H' fun σ2 H2 => tb { D with nx := N, ct := N, bk := D.nx } σ2 H2) := by
  have hsz : s.cps.size = (tl s).length := by simp
  refine for_it walk_str (fun i σ H => Pv ((tl s).take i) σ H) (by simpa using h0) (fun _ _ _ _ _ => True.intro) ?_ (fun σ H p => hd σ H (by rw [hsz, List.take_length] at p; exact p))
  rintro i x σ H H' hi p ⟨rfl, c, hc, rfl⟩
  have hc' : (tl s)[i]? = some c := by simpa using hc
  have hl : i < (tl s).length := by omega
  have e : tl s = (tl s).take i ++ c :: (tl s).drop (i + 1) := by
    have h2 : (tl s)[i] = c := by rw [List.getElem?_eq_getElem hl] at hc'; exact Option.some.inj hc'
    rw [← h2, ← List.drop_eq_getElem_cons hl, List.take_append_drop]
  have e2 : (tl s).take (i + 1) = (tl s).take i ++ [c] := by rw [List.take_add_one, hc']; rfl
  rw [e2]
  exact hs _ c _ σ _ e p
theorem for_rg {lo : Int} {n : Nat} (Pv : Nat → L2.St → Hp → Prop) (h0 : Pv 0 σ H)
    (hs : ∀ i σ H, i < n → Pv i σ H → g (.int (lo + i)) σ H fun σ2 H2 => tb { D with nx := Pv (i + 1), ct := Pv (i + 1), bk := D.nx } σ2 H2) (hd : ∀ σ H, Pv n σ H → D.nx σ H) :
    ∃ W : Nat → Nat → L2.St → Hp → Prop, (∃ m, W 0 m σ H) ∧ ∀ i m σ H, W i m σ H →
      ((Itr lo n).stop i H ∧ D.nx σ H) ∨ ((Itr lo n).go i H ∧ ∃ N : L2.St → Hp → Prop, (∀ σ' H', N σ' H' → ∃ m', m' < m ∧ W (i + 1) m' σ' H') ∧ ∀ x H', (Itr lo n).yld i H x H' → g x σ H' fun σ2 H2 => tb { D with nx := N, ct := N, bk := D.nx } σ2 H2) := for_range Pv h0 hs hd
theorem for_li {K : PySem.W.Frag} {a : Addr} {xs : List V} (Pv : List V → L2.St → Hp → Prop) (h0 : Pv [] σ H) (hl : ∀ pre post σ H, xs = pre ++ post → Pv pre σ H → SqL K H a xs)
    (hs : ∀ pre x post σ H, xs = pre ++ x :: post → Pv pre σ H → g x σ H fun σ2 H2 => tb { D with nx := Pv (pre ++ [x]), ct := Pv (pre ++ [x]), bk := D.nx } σ2 H2) (hd : ∀ σ H, Pv xs σ H → D.nx σ H) :
    ∃ W : Nat → Nat → L2.St → Hp → Prop, (∃ m, W 0 m σ H) ∧ ∀ i m σ H, W i m σ H →
      ((Itl K a).stop i H ∧ D.nx σ H) ∨ ((Itl K a).go i H ∧ ∃ N : L2.St → Hp → Prop, (∀ σ' H', N σ' H' → ∃ m', m' < m ∧ W (i + 1) m' σ' H') ∧ ∀ x H', (Itl K a).yld i H x H' → g x σ H' fun σ2 H2 => tb { D with nx := N, ct := N, bk := D.nx } σ2 H2) := by
  refine for_it (walk_list (xs := xs)) (fun i σ H => Pv (xs.take i) σ H) (by simpa using h0) (fun i σ H _ p => hl (xs.take i) (xs.drop i) σ H (List.take_append_drop i xs).symm p) ?_ (fun σ H p => hd σ H (by rw [List.take_length] at p; exact p))
  rintro i x σ H H' hi p ⟨rfl, hc⟩
  have e : xs = xs.take i ++ x :: xs.drop (i + 1) := by
    have h2 : xs[i] = x := by rw [List.getElem?_eq_getElem hi] at hc; exact Option.some.inj hc
    rw [← h2, ← List.drop_eq_getElem_cons hi, List.take_append_drop]
  have e2 : xs.take (i + 1) = xs.take i ++ [x] := by rw [List.take_add_one, hc]; rfl
  rw [e2]
  exact hs _ x _ σ _ e p
end
section
variable {g : TG} {tt : TT} {te : TE} {vs : List Nat} {σ : L2.St} {H1 : Hp} {D : Addr} {Qd : Hp → Prop}
theorem lc_rg {lo : Int} {n : Nat} (Pv : Nat → Hp → Prop) (h0 : Pv 0 (upd H1 D (.lst [])))
    (hs : ∀ i H, i < n → Pv i H → g (.int (lo + i)) (wipe σ vs) H fun σ2 H2 => wipe σ2 vs = wipe σ vs ∧ tt σ2 H2 fun b H3 =>
      if b = true then te σ2 H3 fun y H4 => ∃ acc, H4 D = some (.lst acc) ∧ acc.length < sizeLine ∧ Pv (i + 1) (upd H4 D (.lst (acc ++ [y]))) else Pv (i + 1) H3) (hd : ∀ H, Pv n H → Qd H) :
    ∃ W : Nat → Nat → Hp → Prop, (∃ m, W 0 m (upd H1 D (.lst []))) ∧ ∀ i m H, W i m H →
      ((Itr lo n).stop i H ∧ Qd H) ∨ ((Itr lo n).go i H ∧ ∃ Nx : Hp → Prop, (∀ H', Nx H' → ∃ m', m' < m ∧ W (i + 1) m' H') ∧ ∀ x H', (Itr lo n).yld i H x H' → g x (wipe σ vs) H' fun σ2 H2 => wipe σ2 vs = wipe σ vs ∧ tt σ2 H2 fun b H3 =>
        if b = true then te σ2 H3 fun y H4 => ∃ acc, H4 D = some (.lst acc) ∧ acc.length < sizeLine ∧ Nx (upd H4 D (.lst (acc ++ [y]))) else Nx H3) := lc_range Pv h0 hs hd
theorem lc_str {s : Str} (Pv : List Nat → Hp → Prop) (h0 : Pv [] (upd H1 D (.lst [])))
    (hs : ∀ pre c post H, tl s = pre ++ c :: post → Pv pre H → g (.str ⟨#[c]⟩) (wipe σ vs) H fun σ2 H2 => wipe σ2 vs = wipe σ vs ∧ tt σ2 H2 fun b H3 =>
      if b = true then te σ2 H3 fun y H4 => ∃ acc, H4 D = some (.lst acc) ∧ acc.length < sizeLine ∧ Pv (pre ++ [c]) (upd H4 D (.lst (acc ++ [y]))) else Pv (pre ++ [c]) H3) (hd : ∀ H, Pv (tl s) H → Qd H) :
    ∃ W : Nat → Nat → Hp → Prop, (∃ m, W 0 m (upd H1 D (.lst []))) ∧ ∀ i m H, W i m H →
      ((Its s).stop i H ∧ Qd H) ∨ ((Its s).go i H ∧ ∃ Nx : Hp → Prop, (∀ H', Nx H' → ∃ m', m' < m ∧ W (i + 1) m' H') ∧ ∀ x H', (Its s).yld i H x H' → g x (wipe σ vs) H' fun σ2 H2 => wipe σ2 vs = wipe σ vs ∧ tt σ2 H2 fun b H3 =>
        if b = true then te σ2 H3 fun y H4 => ∃ acc, H4 D = some (.lst acc) ∧ acc.length < sizeLine ∧ Nx (upd H4 D (.lst (acc ++ [y]))) else Nx H3) := by
  have hsz : s.cps.size = (tl s).length := by simp
  refine lc_it walk_str (fun i H => Pv ((tl s).take i) H) (by simpa using h0) (fun _ _ _ _ => True.intro) ?_ (fun H p => hd H (by rw [hsz, List.take_length] at p; exact p))
  rintro i x H H' hi p ⟨rfl, c, hc, rfl⟩
  have hc' : (tl s)[i]? = some c := by simpa using hc
  have hl : i < (tl s).length := by omega
  have e : tl s = (tl s).take i ++ c :: (tl s).drop (i + 1) := by
    have h2 : (tl s)[i] = c := by rw [List.getElem?_eq_getElem hl] at hc'; exact Option.some.inj hc'
    rw [← h2, ← List.drop_eq_getElem_cons hl, List.take_append_drop]
  have e2 : (tl s).take (i + 1) = (tl s).take i ++ [c] := by rw [List.take_add_one, hc']; rfl
  rw [e2]
  exact hs _ c _ _ e p
theorem lc_li {K : PySem.W.Frag} {a : Addr} {xs : List V} (Pv : List V → Hp → Prop) (h0 : Pv [] (upd H1 D (.lst []))) (hl : ∀ pre post H, xs = pre ++ post → Pv pre H → SqL K H a xs)
    (hs : ∀ pre x post H, xs = pre ++ x :: post → Pv pre H → g x (wipe σ vs) H fun σ2 H2 => wipe σ2 vs = wipe σ vs ∧ tt σ2 H2 fun b H3 =>
      if b = true then te σ2 H3 fun y H4 => ∃ acc, H4 D = some (.lst acc) ∧ acc.length < sizeLine ∧ Pv (pre ++ [x]) (upd H4 D (.lst (acc ++ [y]))) else Pv (pre ++ [x]) H3) (hd : ∀ H, Pv xs H → Qd H) :
    ∃ W : Nat → Nat → Hp → Prop, (∃ m, W 0 m (upd H1 D (.lst []))) ∧ ∀ i m H, W i m H →
      ((Itl K a).stop i H ∧ Qd H) ∨ ((Itl K a).go i H ∧ ∃ Nx : Hp → Prop, (∀ H', Nx H' → ∃ m', m' < m ∧ W (i + 1) m' H') ∧ ∀ x H', (Itl K a).yld i H x H' → g x (wipe σ vs) H' fun σ2 H2 => wipe σ2 vs = wipe σ vs ∧ tt σ2 H2 fun b H3 =>
        if b = true then te σ2 H3 fun y H4 => ∃ acc, H4 D = some (.lst acc) ∧ acc.length < sizeLine ∧ Nx (upd H4 D (.lst (acc ++ [y]))) else Nx H3) := by
  refine lc_it (walk_list (xs := xs)) (fun i H => Pv (xs.take i) H) (by simpa using h0) (fun i H _ p => hl (xs.take i) (xs.drop i) H (List.take_append_drop i xs).symm p) ?_ (fun H p => hd H (by rw [List.take_length] at p; exact p))
  rintro i x H H' hi p ⟨rfl, hc⟩
  have e : xs = xs.take i ++ x :: xs.drop (i + 1) := by
    have h2 : xs[i] = x := by rw [List.getElem?_eq_getElem hi] at hc; exact Option.some.inj hc
    rw [← h2, ← List.drop_eq_getElem_cons hi, List.take_append_drop]
  have e2 : xs.take (i + 1) = xs.take i ++ [x] := by rw [List.take_add_one, hc]; rfl
  rw [e2]
  exact hs _ x _ _ e p
end
end FR
set_option Elab.async false
set_option linter.all false
set_option maxRecDepth 100000
/-! names and paths; defs with a star parameter -/
namespace FR
open PySem PySem.Spec PyProof.Rows L2 TL
theorem Keep.trans {M : List Addr} {H H1 H2 : Hp} (a : Keep M H H1) (b : Keep M H1 H2) : Keep M H H2 := fun p o e hp => b p o (a p o e hp) hp
theorem Keep.nil {M : List Addr} {H H1 : Hp} (a : Keep [] H H1) : Keep M H H1 := fun p o e _ => a p o e (by simp)
theorem Ow.sel {H0 H : Hp} {M : List Addr} {L L' : List (Addr × HO)} (W : Ow H0 M H L) (h : L'.Sublist L) : Ow H0 M H L' := ⟨W.keep, fun p hp => W.has p (h.subset hp), (h.map _).nodup W.nd, fun p hp => W.fr p (h.subset hp)⟩
theorem Ow.fresh {H0 H : Hp} {M : List Addr} {L : List (Addr × HO)} {p : Addr} {o : HO} (W : Ow H0 M H ((p, o) :: L)) (h : ∀ x ∈ M, x ∈ L.map (·.1)) : H0 p = none := by
  rcases W.fr _ List.mem_cons_self with r | r
  · exact r
  · exact absurd (h _ r) (List.nodup_cons.mp W.nd).1
theorem Ow.anyN {H0 H H' : Hp} {M : List Addr} {L : List (Addr × HO)} {a p : Addr} {o o' o2 : HO} (W : Ow H0 M H L) (i : Nat) (e : L[i]? = some (a, o)) (k : Keep [a] H H') (h : H' a = some o') (hp : H p = none) (h2 : H' p = some o2) : Ow H0 M H' ((p, o2) :: L.set i (a, o')) where
  keep := (W.any1 i e k h).keep
  has := fun q hq => by
    rcases List.mem_cons.mp hq with rfl | hq
    · exact h2
    · exact (W.any1 i e k h).has q hq
  nd := by
    rw [List.map_cons, List.nodup_cons, map_set_fst e]
    refine ⟨fun hm => ?_, W.nd⟩
    obtain ⟨q, hq, e⟩ := List.mem_map.mp hm
    have := W.has q hq
    rw [show q.1 = p from e, hp] at this
    cases this
  fr := fun q hq => by
    rcases List.mem_cons.mp hq with rfl | hq
    · by_cases hm : p ∈ M
      · exact .inr hm
      · cases e0 : H0 p with
        | none => exact .inl rfl
        | some u =>
          have := W.keep p u e0 hm
          rw [hp] at this
          cases this
    · exact (W.any1 i e k h).fr q hq
/-- a small letter -/
def lc (c : Nat) : Bool := decide (97 ≤ c ∧ c ≤ 122)
theorem lc_alpha : ∀ c : Fin 128, lc c.1 = true → Unicode.isAlpha c.1 = true ∧ Unicode.isLower c.1 = true ∧ (Unicode.isUpper c.1 || Unicode.isTitle c.1) = false := by decide +kernel
theorem all_tl (s : Str) (p : Nat → Bool) : s.cps.all p = (tl s).all p := by simp
theorem any_tl (s : Str) (p : Nat → Bool) : s.cps.any p = (tl s).any p := by simp
theorem isascii_asc {s : Str} (a : Asc s) : Txt.isascii s = true := by
  show s.cps.all (· < 128) = true
  rw [all_tl]
  exact List.all_eq_true.mpr fun c hc => decide_eq_true (a c hc)
/-- a name -/
structure Nm (s : Str) : Prop where
  l0 : 1 ≤ s.length
  l1 : s.length ≤ 8
  lo : ∀ c ∈ tl s, lc c = true
theorem Nm.lt {s : Str} (h : Nm s) {c : Nat} (hc : c ∈ tl s) : 97 ≤ c ∧ c ≤ 122 := of_decide_eq_true (h.lo c hc)
theorem Nm.asc {s : Str} (h : Nm s) : Asc s := fun c hc => by have := h.lt hc; omega
theorem Nm.alpha {s : Str} (h : Nm s) : Txt.isalpha s = true := by
  show (decide (s.length > 0) && s.cps.all Unicode.isAlpha) = true
  rw [all_tl, Bool.and_eq_true, decide_eq_true_eq, List.all_eq_true]
  exact ⟨h.l0, fun c hc => (lc_alpha ⟨c, h.asc c hc⟩ (h.lo c hc)).1⟩
theorem Nm.lower {s : Str} (h : Nm s) : Txt.islower s = true := by
  show (s.cps.any Unicode.isLower && !s.cps.any fun c => Unicode.isUpper c || Unicode.isTitle c) = true
  rw [any_tl, any_tl, Bool.and_eq_true, List.any_eq_true, Bool.not_eq_true', List.any_eq_false]
  refine ⟨?_, fun c hc => by have := (lc_alpha ⟨c, h.asc c hc⟩ (h.lo c hc)).2.2; simpa using this⟩
  have h0 := h.l0
  rw [len_tl] at h0
  obtain ⟨c, hc⟩ := List.exists_mem_of_length_pos h0
  exact ⟨c, hc, (lc_alpha ⟨c, h.asc c hc⟩ (h.lo c hc)).2.1⟩
theorem slash : Str.ofString "/" = ⟨#[47]⟩ := by decide +kernel
theorem tl_slash : tl (Str.ofString "/") = [47] := by decide +kernel
theorem tl_emp : tl (Str.ofString "") = [] := by decide +kernel
/-- names behind slashes -/
def flat (ns : List Str) : List Nat := (ns.map fun s => 47 :: tl s).flatten
def cat (ns : List Str) : Str := ns.foldl (fun a n => (a ++ Str.ofString "/") ++ n) (Str.ofString "")
theorem cat_app (ns : List Str) (n : Str) : cat (ns ++ [n]) = (cat ns ++ Str.ofString "/") ++ n := by
  unfold cat
  rw [List.foldl_append]
  rfl
theorem tl_catF : ∀ (ns : List Str) (a : Str), tl (ns.foldl (fun a n => (a ++ Str.ofString "/") ++ n) a) = tl a ++ flat ns
  | [], a => by simp [flat]
  | n :: r, a => by
    rw [List.foldl_cons, tl_catF r, tl_append, tl_append, tl_slash]
    simp [flat]
theorem tl_cat (ns : List Str) : tl (cat ns) = flat ns := by
  unfold cat
  rw [tl_catF, tl_emp]
  rfl
def Nms (ns : List Str) : Prop := ∀ s ∈ ns, Nm s
theorem Nms.app {a b : List Str} (ha : Nms a) (hb : Nms b) : Nms (a ++ b) := fun s h => (List.mem_append.mp h).elim (ha s) (hb s)
theorem Nms.sub {a b : List Str} (h : Nms b) (s : ∀ x ∈ a, x ∈ b) : Nms a := fun x hx => h x (s x hx)
theorem Nms.take {a : List Str} (h : Nms a) (k : Nat) : Nms (a.take k) := h.sub fun _ => List.mem_of_mem_take
theorem Nms.drop {a : List Str} (h : Nms a) (k : Nat) : Nms (a.drop k) := h.sub fun _ => List.mem_of_mem_drop
theorem Nms.dropLast {a : List Str} (h : Nms a) : Nms a.dropLast := h.sub fun _ hx => (List.dropLast_subset _) hx
theorem Nms.asc {a : List Str} (h : Nms a) : ∀ s ∈ a, Asc s := fun s hs => (h s hs).asc
theorem flat_len : ∀ {ns : List Str}, Nms ns → (flat ns).length ≤ 9 * ns.length
  | [], _ => by simp [flat]
  | n :: r, h => by
    have ih := flat_len (ns := r) fun s hs => h s (List.mem_cons_of_mem _ hs)
    have h1 := (h n List.mem_cons_self).l1
    rw [len_tl] at h1
    show ((47 :: tl n) ++ flat r).length ≤ _
    rw [List.length_append, List.length_cons, List.length_cons]
    omega
theorem cat_len {ns : List Str} (h : Nms ns) : (cat ns).length ≤ 9 * ns.length := by
  rw [len_tl, tl_cat]
  exact flat_len h
def pathOf (ns : List Str) : Str := if ns = [] then Str.ofString "/" else cat ns
theorem pathOf_nil : pathOf [] = Str.ofString "/" := rfl
theorem pathOf_ne {ns : List Str} (h : ns ≠ []) : pathOf ns = cat ns := if_neg h
theorem path_len {ns : List Str} (h : Nms ns) : (pathOf ns).length ≤ 9 * ns.length + 1 := by
  by_cases e : ns = []
  · subst e
    decide +kernel
  · rw [pathOf_ne e]
    exact Nat.le_trans (cat_len h) (by omega)
theorem flat_cons (n : Str) (r : List Str) : flat (n :: r) = 47 :: (tl n ++ flat r) := by simp [flat]
theorem path_starts (ns : List Str) : Txt.startswith (pathOf ns) (Str.ofString "/") = true := by
  rw [slash, starts_one]
  cases ns with
  | nil => decide +kernel
  | cons n r => rw [pathOf_ne (by simp), tl_cat, flat_cons]; rfl
theorem path_slash {ns : List Str} (h : Nms ns) (e : ns ≠ []) : pathOf ns ≠ Str.ofString "/" := fun he => by
  have := congrArg tl he
  rw [pathOf_ne e, tl_cat, tl_slash] at this
  cases ns with
  | nil => exact e rfl
  | cons n r =>
    rw [flat_cons] at this
    have h0 := (h n List.mem_cons_self).l0
    rw [len_tl] at h0
    have h2 := congrArg List.length this
    simp at h2
    simp [h2.1] at h0
theorem cat_emp {ns : List Str} : cat ns = Str.ofString "" ↔ ns = [] := by
  constructor
  · intro h
    cases ns with
    | nil => rfl
    | cons n r =>
      have := congrArg tl h
      rw [tl_cat, flat_cons, tl_emp] at this
      cases this
  · rintro rfl
    rfl
theorem spl_word : ∀ (l acc r : List Nat), (∀ c ∈ l, c ≠ 47) → spl [47] 0 acc (l ++ r) = spl [47] 0 (acc ++ l) r
  | [], acc, r, _ => by simp
  | c :: l, acc, r, h => by
    rw [List.cons_append, spl_miss (by rw [pre_one]; exact decide_eq_false (h c List.mem_cons_self)), spl_word l _ r fun d hd => h d (List.mem_cons_of_mem _ hd)]
    simp
theorem spl_flat : ∀ (ns : List Str) (acc : List Nat), Nms ns → spl [47] 0 acc (flat ns) = acc :: ns.map tl
  | [], acc, _ => by
    show spl [47] 0 acc [] = _
    rw [spl_nil]
    rfl
  | n :: r, acc, h => by
    have hn := h n List.mem_cons_self
    rw [flat_cons, spl_hit (by rw [pre_one]; rfl), List.map_cons]
    show acc :: spl [47] 0 [] (tl n ++ flat r) = _
    rw [spl_word _ _ _ fun c hc => by have := hn.lt hc; omega, spl_flat r _ fun s hs => h s (List.mem_cons_of_mem _ hs)]
    rfl
theorem split_path {ns : List Str} (h : Nms ns) (e : ns ≠ []) : Txt.split (pathOf ns) (Str.ofString "/") = Str.ofString "" :: ns := by
  refine map_tl_inj ?_
  rw [slash, split_tl _ (by decide), pathOf_ne e, tl_cat, spl_flat _ _ h, List.map_cons, tl_emp]
theorem flat_join : ∀ {ns : List Str}, ns ≠ [] → 47 :: joinL [47] (ns.map tl) = flat ns
  | [], h => absurd rfl h
  | [s], _ => by
    rw [flat_cons]
    show 47 :: tl s = 47 :: (tl s ++ [])
    rw [List.append_nil]
  | s :: t :: r, _ => by
    have ih := flat_join (ns := t :: r) (by simp)
    rw [flat_cons, ← ih]
    rfl
theorem join_path (ns : List Str) : Str.ofString "/" ++ Txt.join (Str.ofString "/") ns = pathOf ns := by
  refine ext_tl ?_
  rw [tl_append, join_eq, tl_join, tl_slash]
  cases ns with
  | nil => decide +kernel
  | cons n r =>
    rw [pathOf_ne (by simp), tl_cat]
    exact flat_join (by simp)
theorem names_sum {ns : List Str} (h : Nms ns) : (ns.map (·.length)).sum ≤ ns.length * 8 := sum_le fun s hs => (h s hs).l1
theorem ix_listK {X : Cx} {K : PySem.W.Frag} (h : X.K = K) : IxR X (rIxL K) := h ▸ ix_list
/-! slices -/
theorem cutV_to (xs : List V) (k : Nat) : cutV xs none (some (k : Int)) = xs.take k := by
  show (xs.drop 0).take (HT.sIx xs.length xs.length (some (k : Int)) - 0) = _
  rw [HT.sIx_nat, List.drop_zero, Nat.sub_zero]
  by_cases h : k ≤ xs.length
  · rw [Nat.min_eq_left h]
  · rw [Nat.min_eq_right (by omega), List.take_of_length_le (Nat.le_refl _), List.take_of_length_le (by omega)]
theorem cutV_from (xs : List V) (k : Nat) : cutV xs (some (k : Int)) none = xs.drop k := by
  show (xs.drop (HT.sIx xs.length 0 (some (k : Int)))).take (xs.length - HT.sIx xs.length 0 (some (k : Int))) = _
  rw [HT.sIx_nat]
  by_cases h : k ≤ xs.length
  · rw [Nat.min_eq_left h, List.take_of_length_le (by rw [List.length_drop]; exact Nat.le_refl _)]
  · rw [Nat.min_eq_right (by omega), Nat.sub_self, List.take_zero, List.drop_of_length_le (by omega)]
theorem cutV_last (xs : List V) : cutV xs none (some (-1)) = xs.dropLast := by
  show (xs.drop 0).take (((-1 : Int) + (xs.length : Int)).toNat - 0) = _
  rw [List.drop_zero, Nat.sub_zero, List.dropLast_eq_take, show ((-1 : Int) + (xs.length : Int)).toNat = xs.length - 1 by omega]
theorem tl_cutTo (s : Str) (k : Nat) : tl (cutS s none (some (k : Int))) = (tl s).take k := by
  rw [tl_cutS]
  show ((tl s).drop 0).take (HT.sIx s.length s.length (some (k : Int)) - 0) = _
  rw [HT.sIx_nat, len_tl, List.drop_zero, Nat.sub_zero]
  by_cases h : k ≤ (tl s).length
  · rw [Nat.min_eq_left h]
  · rw [Nat.min_eq_right (by omega), List.take_of_length_le (Nat.le_refl _), List.take_of_length_le (by omega)]
theorem eqv_strs2 : ∀ a b : List Str, PyData.eqvAll (a.map .str) (b.map .str) = decide (a = b)
  | [], [] => rfl
  | [], _ :: _ => rfl
  | _ :: _, [] => rfl
  | x :: a, y :: b => by
    rw [List.map_cons, List.map_cons, PyData.eqvAll, eqv_strs2 a b, PyData.eqv]
    by_cases h : x = y
    · subst h
      simp
    · simp [h]
theorem eqv_lists (a b : List Str) : PyData.eqv (dStrs a) (dStrs b) = decide (a = b) := by
  unfold dStrs
  rw [PyData.eqv, eqv_strs2]
theorem shaped_names {ns : List Str} (h : Nms ns) : SeqAt.shaped (dStrs ns) = true := shaped_strs h.asc
/-! ### a walk over a tuple by what is behind -/
section
variable {g : TG} {tb : TS} {D : Ends} {σ : L2.St} {H : Hp}
theorem for_tu {K : PySem.W.Frag} {a : Addr} {xs : List V} (Pv : List V → L2.St → Hp → Prop) (h0 : Pv [] σ H) (hl : ∀ pre post σ H, xs = pre ++ post → Pv pre σ H → SqT K H a xs)
    (hs : ∀ pre x post σ H, xs = pre ++ x :: post → Pv pre σ H → g x σ H fun σ2 H2 => tb { D with nx := Pv (pre ++ [x]), ct := Pv (pre ++ [x]), bk := D.nx } σ2 H2) (hd : ∀ σ H, Pv xs σ H → D.nx σ H) :
    ∃ W : Nat → Nat → L2.St → Hp → Prop, (∃ m, W 0 m σ H) ∧ ∀ i m σ H, W i m σ H →
      ((Itt K a).stop i H ∧ D.nx σ H) ∨ ((Itt K a).go i H ∧ ∃ N : L2.St → Hp → Prop, (∀ σ' H', N σ' H' → ∃ m', m' < m ∧ W (i + 1) m' σ' H') ∧ ∀ x H', (Itt K a).yld i H x H' → g x σ H' fun σ2 H2 => tb { D with nx := N, ct := N, bk := D.nx } σ2 H2) := by
  refine for_it (walk_tup (xs := xs)) (fun i σ H => Pv (xs.take i) σ H) (by simpa using h0) (fun i σ H _ p => hl (xs.take i) (xs.drop i) σ H (List.take_append_drop i xs).symm p) ?_ (fun σ H p => hd σ H (by rw [List.take_length] at p; exact p))
  rintro i x σ H H' hi p ⟨rfl, hc⟩
  have e : xs = xs.take i ++ x :: xs.drop (i + 1) := by
    have h2 : xs[i] = x := by rw [List.getElem?_eq_getElem hi] at hc; exact Option.some.inj hc
    rw [← h2, ← List.drop_eq_getElem_cons hi, List.take_append_drop]
  have e2 : xs.take (i + 1) = xs.take i ++ [x] := by rw [List.take_add_one, hc]; rfl
  rw [e2]
  exact hs _ x _ σ _ e p
end
/-! ### defs with a star parameter, and their calls -/
theorem okStar {P : Program} {w : World} {K : PySem.W.Frag} {mg : Str → Option Value} {base : Heap} {x qual pv : Str} {st : Stmt} {f : Addr} {fd : FuncData} {N ps : List Str} {k : Nat} {sp : Sp} (F : L2.Fun K x qual st f fd) (S : FnScope N (ps ++ [pv]) (defScope st))
    (hb : ∀ (kV doc pm : Value) (an : Option Addr) (cdv ct : Value) (us rest : List Value), us.length = ps.length → bindArgs (PySem.W.fnOf x qual (defArgs st) (defBody st) (defScope st) .none kV doc pm an cdv ct) ⟨us ++ rest, []⟩ = (newTuple rest >>= fun t => pure (ps.zip us ++ [(pv, t)])))
    (hbody : ∀ (cdv : Value) (A : Around) (outer : List Env) (s : Shared) (H : Hp) (vs : List V) (Q : VK) (E : XK), Room k (A.deeper (envOfC qual (defScope st) s.heap.objs.size f cdv)) → sp vs H Q E →
      ∃ t, PSs (cxOf CX0 P w K mg base N qual (defScope st) f cdv A outer s H E).nox (defBody st) t ∧ t { nx := fun _ H' => Q .non H', rt := Q } (start N vs) H) :
    FnR P w K mg base CX0 (k + 1) f (fun vs H Q E => ∃ ws rest, vs = ws ++ rest ∧ ws.length = ps.length ∧ rest.length ≤ sizeLine ∧ ∀ p, H p = Option.none → sp (ws ++ [V.ref p]) (upd H p (.tup rest)) Q E) := by
  obtain ⟨oc, od, kV, doc, pm, an, cdv, ct, osl, rfl, lk, hcd⟩ := F.ex
  refine StX.fn_star lk hcd S StX.cxUp_none (hb kV doc pm an cdv ct) fun A outer s H vs Q E hr hsp => ?_
  obtain ⟨t, h, q⟩ := hbody cdv A outer s H vs Q E hr hsp
  exact ⟨t, h.nox, q⟩
section
variable {X : Cx} {CX : CXT} {k : Nat} {f : Addr} {sp : Sp} {E : XK} {x : Str} {e : Expr} {es : List Expr} {t : TA} {p pos : Pos}
theorem pe_callRN (F : FnR X.prog X.w X.K X.mg X.base CX k f sp) (hr : Room k X.A) (hk : PySem.W.keepIn X.K (.ref f) = true) (hg : Gl X x) (hm : X.mg x = some (.ref f)) (hx : Passes CX X E) (ha : PA X (e :: es) t) (hd : (x == ("__debug__" : Str)) = false := by decide)
    (he : starEach (e :: es) X.env = (false, eval e X.env) :: starEach es X.env := by rfl) (hpl : (backTo pos (starEach es X.env)).any (·.1) = false := by rfl) :
    PE X (.Call (.Name x p) (e :: es) [] pos) (fun σ H Q => t σ H fun vs H1 => sp vs H1 Q E) := by
  refine ⟨fun pins s σ H Q I h => ?_⟩
  refine wpAny_Call_Name_kw (ld_glob I hg hm ?_ hd)
  refine PySem.W.callWith_K (h₀ := X.base) I.ok.mod.kin hk (thn (ha.run pos pins s σ H _ I h) fun us s1 ⟨vs, H1, I1, r, q⟩ => ⟨I1.kIn, ?_⟩) he hpl
  exact wpAny_call (run_fnR F hr hx I1 r q)
end

end FR
set_option Elab.async false
set_option linter.all false
set_option maxRecDepth 100000
namespace FR
open PySem PySem.Spec PyProof.Rows L2 TL
theorem pe_joinK {X : Cx} {K : PySem.W.Frag} {o e : Expr} {to te : TE} {apos pos : Pos} (h : X.K = K) (ho : PE X o to) (he : PE X e te) (hs : starEach [e] X.env = [(false, eval e X.env)] := by rfl) (hbase : attributeBase o "join" X.env (eval o X.env) = eval o X.env := by rfl) (hline : (apos.endLine == pos.line) = true := by rfl) :
    PE X (.Call (.Attribute o "join" apos) [e] [] pos) (tM1 (fun x xs H Q => ∃ a p, ∃ ys : List Str, x = .str a ∧ xs = [.ref p] ∧ (SqL K H p (ys.map V.str) ∨ SqT K H p (ys.map V.str)) ∧
      (ys.map (·.length)).sum + ys.length * a.length ≤ 16777216 ∧ Q (.str (Txt.join a ys)) H) to te) := h ▸ pe_join ho he hs hbase hline
end FR
set_option Elab.async false
set_option linter.all false
set_option maxRecDepth 100000
/-! promises that also know that no repr is under way; repr of data -/
namespace FR
open PySem PySem.Spec PyProof.Rows L2 TL
def FnG (P : Program) (w : World) (K : PySem.W.Frag) (mg : Str → Option Value) (base : Heap) (CX : CXT) (k : Nat) (f : Addr) (sp : Sp) : Prop :=
  ∀ (A : Around) (outer : List Env) (s : Shared) (H : Hp) (us : List Value) (vs : List V) (Q : VK) (E : XK), A.guards = some [] → Room k A → Env0 P w K mg base A outer s H → Vals vs us → sp vs H Q E → codeAny (model P w) A (.call (.ref f) ⟨us, []⟩) (CR CX outer P w H s Q E) s
section
variable {P : Program} {w : World} {K : PySem.W.Frag} {mg : Str → Option Value} {base : Heap} {CX : CXT} {k : Nat} {f : Addr} {sp : Sp}
theorem FnG.of (F : FnR P w K mg base CX k f sp) : FnG P w K mg base CX k f sp := fun A outer s H us vs Q E _ hr e0 r hs => F A outer s H us vs Q E hr e0 r hs
theorem okG {x qual : Str} {st : Stmt} {fd : FuncData} {N ps : List Str} (F : L2.Fun K x qual st f fd) (S : FnScope N ps (defScope st)) (B : Binds K fd ps []) (hlen : ∀ vs H Q E, sp vs H Q E → vs.length = ps.length)
    (hbody : ∀ (cdv : Value) (A : Around) (outer : List Env) (s : Shared) (H : Hp) (vs : List V) (Q : VK) (E : XK), A.guards = some [] → Room k (A.deeper (envOfC qual (defScope st) s.heap.objs.size f cdv)) → sp vs H Q E →
      ∃ t, PSs (cxOf CX P w K mg base N qual (defScope st) f cdv A outer s H E) (defBody st) t ∧ t { nx := fun _ H' => Q .non H', rt := Q } (start N vs) H) : FnG P w K mg base CX (k + 1) f sp := by
  intro A outer s H us vs Q E hg hr e0 r hsp
  obtain ⟨oc, od, kV, doc, pm, an, cdv, ct, osl, rfl, lk, hcd⟩ := F.ex
  have hv : vs.length = ps.length := hlen _ _ _ _ hsp
  have hu : us.length = ps.length := by rw [← r.length]; exact hv
  have KI : K.In s.heap := e0.mod.kin.keeps fun b o e => (e0.bs b o e).1
  have b0 := B s us KI (by rw [List.append_nil]; exact hu)
  rw [List.append_nil] at b0
  refine StX.run_bnd lk hcd S hr e0 (G := fun xs H2 => xs = vs ∧ H2 = H) (fun A' Ex Q' h => ?_) fun s2 H2 xs ⟨ex, eH⟩ hr' => ?_
  · exact b0 _ _ _ _ (h s H vs us e0 Un.refl rfl (fun _ _ z => z) r hv ⟨rfl, rfl⟩)
  · subst ex eH
    exact hbody cdv A outer s2 _ _ Q E hg hr' hsp
end
section
variable {X : Cx} {CX : CXT} {k : Nat} {f : Addr} {sp : Sp} {E : XK} {x : Str} {e : Expr} {es : List Expr} {t : TA} {p pos : Pos}
theorem pe_callG (F : FnG X.prog X.w X.K X.mg X.base CX k f sp) (hgd : X.A.guards = some []) (hr : Room k X.A) (hk : PySem.W.keepIn X.K (.ref f) = true) (hg : Gl X x) (hm : X.mg x = some (.ref f)) (hx : Passes CX X E) (ha : PA X (e :: es) t) (hd : (x == ("__debug__" : Str)) = false := by decide)
    (he : starEach (e :: es) X.env = (false, eval e X.env) :: starEach es X.env := by rfl) (hpl : (backTo pos (starEach es X.env)).any (·.1) = false := by rfl) :
    PE X (.Call (.Name x p) (e :: es) [] pos) (fun σ H Q => t σ H fun vs H1 => sp vs H1 Q E) := ⟨fun pins s σ H Q I h => by
  refine wpAny_Call_Name_kw (ld_glob I hg hm (PySem.W.callWith_K (h₀ := X.base) I.ok.mod.kin hk (thn (ha.run pos pins s σ H _ I h) fun us s1 hz => ?_) he hpl) hd)
  obtain ⟨vs, H1, I1, r, q⟩ := hz
  refine ⟨I1.kIn, wpAny_call (codeAny_mono (F X.A X.stack s1 H1 us vs Q E hgd hr I1.env0 r q) fun rr s' hq => ?_)⟩
  match rr, hq with
  | .error ee, hq => exact hx pins σ H1 s1 ee s' I1 hq
  | .ok (.ret u), hq => exact I1.after hq
  | .ok .next, hq => exact hq.elim
  | .ok .brk, hq => exact hq.elim
  | .ok .cont, hq => exact hq.elim⟩
/-- repr of data without dicts -/
def rReprD (K : PySem.W.Frag) : List V → Hp → VK → Prop := fun xs H Q => ∃ (p : Addr) (d : PyData), xs = [.ref p] ∧ Dp K H (.ref p) d ∧ d.showable = true ∧ d.hasDict = false ∧ d.depth ≤ 50 ∧ d.shown.length ≤ sizeLine ∧ Q (.str d.shown) H
theorem call_reprD (hgd : X.A.guards = some []) (hu : X.A.units + 65 < cLine) : CallR X (.builtin "repr") (rReprD X.K) := fun pins s σ H xs us Q I r h => by
  obtain ⟨p, d, rfl, hd, hs, hnd, hdp, hz, q⟩ := h
  obtain ⟨u, rfl, ru⟩ : ∃ u, us = [u] ∧ RelV (.ref p) u := by
    cases r with
    | cons a b => cases b; exact ⟨_, rfl, a⟩
  cases (show u = Value.ref p from ru)
  obtain ⟨as, rd⟩ := Dp.reads I d _ _ hd ru
  exact repr_of_reads' rd hs (fun e => by rw [hnd] at e; cases e) hgd (by omega) (fun _ _ e => e) (fun h' u tk hk => ⟨.str d.shown, H, I.kept hk, ⟨_, rfl⟩, q⟩) hz
end
/-! ### the end of a row, for such a promise -/
theorem law_callG {P : Program} {w : World} {K : PySem.W.Frag} {mg mb : Str → Option Value} {k : Nat} {fa a : Addr} {sp : Sp} {s1 : Shared} {vs : List Value} {ns : List Int}
    (KX : K.In s1.heap) (hns : s1.heap.Ns mainGlobals mg) (hb : s1.heap.Ns builtinsNs mb) (hbb : ∀ x : Str, x ≠ "__name__" → mb x = bootBuiltins x) (hlim : s1.heap.NoLimit) (hg : s1.gens = #[])
    (ha : s1.heap.get? a = some { cls := .type "list", data := .seq vs.toArray }) (hi : IntsAre vs ns) (hl : ns.length ≤ sizeLine) (hr : Room k callerA)
    (F : ∀ base : Heap, K.In base → base.Ns mainGlobals mg → FnG P w K mg base CX0 k fa sp)
    (hsp : ∀ H : Hp, Only H → SqL K H a (ns.map V.int) → sp [.ref a] H (fun v _ => v = .bl true) fun _ _ _ => False) :
    codeAny (model P w) callerA (.call (.ref fa) ⟨[.ref a], []⟩) (fun r s' => r = .ok (.ret (.bool true)) ∧ OldK s1.heap s'.heap ∧ s'.os = s1.os ∧ AllBare s'.gens) s1 := by
  have rv := vals_ints hi
  have lv := hi.length
  have main : ∀ H : Hp, Only H → SqL K H a (ns.map V.int) → HOk P w H s1.heap → (∀ b, H b ≠ none → b = a) → (H a ≠ none → K.lookup a = none) →
      codeAny (model P w) callerA (.call (.ref fa) ⟨[.ref a], []⟩) (fun r s' => r = .ok (.ret (.bool true)) ∧ OldK s1.heap s'.heap ∧ s'.os = s1.os ∧ AllBare s'.gens) s1 := by
    intro H hO hS hok hA hK
    have free : ∀ {b : Addr} {o : Obj} {es : Array DictEntry} {ep : Nat}, s1.heap.get? b = some o → o.data = .dict es ep → H b = none := by
      intro b o es ep e d
      refine Classical.byContradiction fun q => ?_
      cases hA b q
      cases ha.symm.trans e
      cases d
    have nsT : ∀ {b : Addr} {m : Str → Option Value}, s1.heap.Ns b m → (hidT s1.heap H).Ns b m := by
      intro b m ⟨o, es, ep, e, d, r⟩
      exact ⟨o, es, ep, hidT_get e (free e d), d, r⟩
    have KT : K.In (hidT s1.heap H) := by
      intro b o e
      refine hidT_get (KX b o e) (Classical.byContradiction fun q => ?_)
      cases hA b q
      cases (hK q).symm.trans e
    have md : Mod K mg (hidT s1.heap H) := ⟨KT, nsT hns, ⟨mb, nsT hb, hbb⟩, hlim.elim fun mc hc => ⟨mc, nsT hc.1, hc.2⟩⟩
    have en : Env0 P w K mg (hidT s1.heap H) callerA [] s1 H := ⟨rfl, md, fun _ _ e => of_hidT e, Nat.le_of_eq (hidT_size ..), True.intro, fun _ hb => (List.not_mem_nil hb).elim, hok, AllBare.of_eq hg⟩
    refine codeAny_mono (F _ KT (nsT hns) callerA [] s1 H [.ref a] [.ref a] _ _ rfl hr en (.cons rfl .nil) (hsp H hO hS)) fun r s' h => ?_
    match r, h with
    | .error e, h => exact h.elim
    | .ok .next, h => exact h.elim
    | .ok .brk, h => exact h.elim
    | .ok .cont, h => exact h.elim
    | .ok (.ret u), h =>
      obtain ⟨v, H', os, bare, un, hok', rr, q⟩ := h
      cases (show v = .bl true from q)
      cases (show u = Value.bool true from rr)
      refine ⟨rfl, OldK.of_keep fun b o e => ?_, os, bare⟩
      rcases hO b with z | ⟨ob, xs, z⟩
      · exact un.keep b o e z (fun y => (List.not_mem_nil y).elim) (List.not_mem_nil)
      · have t1 := (hok b _ z).1
        have t2 := (hok' b _ (un.frzs b ob _ z)).1
        rw [e] at t1
        cases t1
        exact t2
  cases hk : K.lookup a with
  | some o =>
    cases ha.symm.trans (KX a o hk)
    exact main (fun _ => none) (fun _ => Or.inl rfl) (Or.inr ⟨_, vs.toArray, _, hk, rfl, rfl, rfl, by rw [List.size_toArray, lv]; exact hl, by simpa using rv⟩) (fun b u z => nomatch (show (none : Option HO) = some u from z)) (fun b z => (z rfl).elim) (fun z => (z rfl).elim)
  | none =>
    have hs : ∀ b : Addr, b = a → (if b = a then some (HO.frz { cls := .type "list", data := .seq vs.toArray } (.lst (ns.map V.int))) else none) = some (HO.frz { cls := .type "list", data := .seq vs.toArray } (.lst (ns.map V.int))) := fun b e => if_pos e
    have hn : ∀ b : Addr, b ≠ a → (if b = a then some (HO.frz { cls := .type "list", data := .seq vs.toArray } (.lst (ns.map V.int))) else none) = none := fun b e => if_neg e
    refine main (fun b => if b = a then some (HO.frz { cls := .type "list", data := .seq vs.toArray } (.lst (ns.map V.int))) else none) (fun b => ?_) (Or.inl (Or.inr ⟨_, hs a rfl⟩)) (fun b u z => ?_) (fun b z => Classical.byContradiction fun e => z (hn b e)) (fun _ => hk)
    · by_cases e : b = a
      · exact Or.inr ⟨_, _, hs b e⟩
      · exact Or.inl (hn b e)
    · by_cases e : b = a
      · cases (hs b e).symm.trans z
        subst e
        exact ⟨ha, by rw [List.length_map]; exact hl, vs, _, rv, ha⟩
      · cases (hn b e).symm.trans z
theorem walk_ofG {l : PySem.W.OpenLaw} {n k : Nat} {q : Program} {loose : List Str} {XP : (Str → Option Value) → Heap → Prop} {YP : World → Heap → Prop} {d : DefRec} {K : Params → PySem.W.Frag} {sp : World → Sp}
    (hn : l.most = some n) (hn2 : n ≤ sizeLine) (hdf : d.params.defaults = []) (hr : Room k callerA) (hY : ∀ (w : World) (h : Heap), YP w h → (K w.params).In h)
    (F : ∀ (w : World) (mg : Str → Option Value) (fa : Addr) (h : Heap), (K w.params).In h → h.Ns mainGlobals mg → mg d.name = some (.ref fa) →
      ∀ base : Heap, (K w.params).In base → base.Ns mainGlobals mg → FnG l.prog w (K w.params) mg base CX0 k fa (sp w))
    (hsp : ∀ (w : World) (H : Hp) (a : Addr) (ns : List Int), ns.length ≤ n → Only H → SqL (K w.params) H a (ns.map V.int) → sp w [.ref a] H (fun v _ => v = .bl true) fun _ _ _ => False) :
    PySem.W.WalkO q loose XP YP l.row.toRowW d [] (fun f vs => PySem.call f vs) := by
  refine Att.attach_call hn hdf fun w s0 s1 mg mb fa o pm cd doc a vs ns G Y ho hd hcd hmg hobj hints hlen hg => ?_
  have KX := hY w _ Y
  exact law_callG KX G.T.g G.T.b G.T.builtins G.T.nolimit hg hobj hints (Nat.le_trans hlen hn2) hr (F w mg fa _ KX G.T.g hmg) fun H hO hS => hsp w H a ns hlen hO hS
end FR
set_option Elab.async false
set_option linter.all false
set_option maxRecDepth 100000
/-! repr of data with dicts -/
namespace FR
open PySem PySem.Spec PyProof.Rows L2 TL
def kD : Key → PyData
  | .inl i => .int i
  | .inr x => .str x
mutual
/-- x stands for the datum d, lists, tuples and dicts of this run all the way -/
inductive Dq (H : Hp) : V → PyData → Prop
  | non : Dq H .non .none
  | bl (b : Bool) : Dq H (.bl b) (.bool b)
  | int (i : Int) : Dq H (.int i) (.int i)
  | str (x : Str) : Dq H (.str x) (.str x)
  | lst {a : Addr} {xs : List V} {ds : List PyData} : H a = some (.lst xs) → sysModules < a → DqAll H xs ds → Dq H (.ref a) (.list ds)
  | tup {a : Addr} {xs : List V} {ds : List PyData} : H a = some (.tup xs) → DqAll H xs ds → Dq H (.ref a) (.tuple ds)
  | dct {a : Addr} {kvs : List (Key × V)} {ds : List (PyData × PyData)} : H a = some (.dK kvs) → DqKv H kvs ds → Dq H (.ref a) (.dict ds)
inductive DqAll (H : Hp) : List V → List PyData → Prop
  | nil : DqAll H [] []
  | cons {v : V} {vs : List V} {d : PyData} {ds : List PyData} : Dq H v d → DqAll H vs ds → DqAll H (v :: vs) (d :: ds)
inductive DqKv (H : Hp) : List (Key × V) → List (PyData × PyData) → Prop
  | nil : DqKv H [] []
  | cons {k : Key} {v : V} {vs : List (Key × V)} {d : PyData} {ds : List (PyData × PyData)} : Dq H v d → DqKv H vs ds → DqKv H ((k, v) :: vs) ((kD k, d) :: ds)
end
section
variable {X : Cx} {pins : List (Addr × Obj)} {σ : L2.St} {H : Hp} {s : Shared}
theorem kD_reads (k : Key) {u : Value} (h : keyIs k u = true) : Reads s.heap u (kD k) [] := by
  rcases keyIs_shape h with ⟨i, t, rfl, rfl⟩ | ⟨x, t, rfl, rfl⟩
  · exact .int i t
  · exact .str x t
mutual
theorem Dq.reads (I : Inv X pins σ H s) : ∀ (d : PyData) (v : V) (u : Value), Dq H v d → RelV v u → ∃ as, Reads s.heap u d as ∧ sysModules ∉ as
  | .none, _, _, h, r => by
    cases h
    cases r
    exact ⟨_, Reads.none, by simp⟩
  | .bool b, _, _, h, r => by
    cases h
    cases r
    exact ⟨_, Reads.bool b, by simp⟩
  | .int i, _, _, h, r => by
    cases h
    obtain ⟨t, rfl⟩ := r
    exact ⟨_, Reads.int i t, by simp⟩
  | .str x, _, _, h, r => by
    cases h
    obtain ⟨t, rfl⟩ := r
    exact ⟨_, Reads.str x t, by simp⟩
  | .list ds, _, _, h, r => by
    cases h with
    | lst hs hb ha =>
      cases r
      obtain ⟨_, its, n, rv, e⟩ := (show ObjOk X.prog X.w H s.heap _ (.lst _) from I.hok _ _ hs)
      obtain ⟨as, q, z⟩ := Dq.readsAll I ds _ _ ha rv
      exact ⟨_, Reads.list e rfl rfl q, fun h => (List.mem_cons.mp h).elim (fun e => by rw [← e] at hb; exact absurd hb (Nat.lt_irrefl _)) z⟩
  | .tuple ds, _, _, h, r => by
    cases h with
    | tup hs ha =>
      cases r
      obtain ⟨_, its, rv, o, e, hc, n, hd⟩ := (show ObjOk X.prog X.w H s.heap _ (.tup _) from I.hok _ _ hs)
      obtain ⟨as, q, z⟩ := Dq.readsAll I ds _ _ ha rv
      exact ⟨_, Reads.tuple e hc hd q, z⟩
  | .dict ds, _, _, h, r => by
    cases h with
    | dct hs ha =>
      cases r
      obtain ⟨_, ns, vs, kv, o, es, ep, e, hx, hd, _, hp, _⟩ := (show ObjOk X.prog X.w H s.heap _ (.dK _) from I.hok _ _ hs)
      obtain ⟨bs, q1, q2, z⟩ := Dq.readsKv I ds _ _ es.toList ha kv hp
      exact ⟨_, Reads.dict e hx.1 hd q1 q2, fun h => (List.mem_append.mp h).elim (fun h => (List.mem_cons.mp h).elim (fun e => by rw [← e] at ns; simp at ns) (fun h => by simp at h)) z⟩
theorem Dq.readsAll (I : Inv X pins σ H s) : ∀ (ds : List PyData) (vs : List V) (us : List Value), DqAll H vs ds → Vals vs us → ∃ as, ReadsAll s.heap us ds as ∧ sysModules ∉ as
  | [], _, _, h, r => by
    cases h
    cases r
    exact ⟨_, ReadsAll.nil, by simp⟩
  | d :: ds, _, _, h, r => by
    cases h with
    | cons h1 h2 =>
      cases r with
      | cons r1 r2 =>
        obtain ⟨as, q1, z1⟩ := Dq.reads I d _ _ h1 r1
        obtain ⟨bs, q2, z2⟩ := Dq.readsAll I ds _ _ h2 r2
        exact ⟨_, ReadsAll.cons q1 q2, fun h => (List.mem_append.mp h).elim z1 z2⟩
theorem Dq.readsKv (I : Inv X pins σ H s) : ∀ (ds : List (PyData × PyData)) (kvs : List (Key × V)) (vs : List (Key × Value)) (es : List DictEntry), DqKv H kvs ds → KV kvs vs → Pairs (mixKind X.prog X.w) es vs →
    ∃ bs, ReadsAll s.heap (es.map (·.key)) (ds.map (·.1)) [] ∧ ReadsAll s.heap (es.map (·.val)) (ds.map (·.2)) bs ∧ sysModules ∉ bs
  | [], _, _, _, h, r, p => by
    cases h
    cases r
    cases p
    exact ⟨_, ReadsAll.nil, ReadsAll.nil, by simp⟩
  | d :: ds, _, _, _, h, r, p => by
    cases h with
    | cons h1 h2 =>
      cases r with
      | cons r1 r2 =>
        cases p with
        | cons p1 p2 p3 =>
          obtain ⟨as, q1, z1⟩ := Dq.reads I _ _ _ h1 r1.2
          obtain ⟨bs, q2, q3, z2⟩ := Dq.readsKv I ds _ _ _ h2 r2 p3
          have p1' := p1
          rw [← r1.1] at p1'
          refine ⟨_, ?_, ?_, fun h => (List.mem_append.mp h).elim z1 z2⟩
          · exact ReadsAll.cons (as := []) (bs := []) (kD_reads _ (show keyIs _ _ = true from p1')) q2
          · rw [List.map_cons, List.map_cons, p2]
            exact ReadsAll.cons q1 q3
end
end
/-! lists at an address behind sysModules -/
structure NewS (o : HO) (Q : VK) (H : Hp) : Prop where
  to : ∀ (p : Addr) (H' : Hp), H p = none → sysModules < p → Keep [] H H' → H' p = some o → Q (.ref p) H'
section
variable {X : Cx} {es : List Expr} {t : TA} {pos : Pos}
def tLstS (t : TA) : TE := fun σ H Q => t σ H fun xs H1 => xs.length ≤ sizeLine ∧ NewS (.lst xs) Q H1
theorem pe_lstS (h : PA X es t) : PE X (.List es pos) (tLstS t) := by
  refine ⟨fun pins s σ H Q I hq => wpAny_List_spliced (thn (h.run _ pins s σ H _ I hq) fun us s1 hh => ?_)⟩
  obtain ⟨xs, H1, I1, r, z, q⟩ := hh
  refine ⟨by rw [← r.length]; exact z, .ref s1.heap.objs.size, upd H1 s1.heap.objs.size (.lst xs), I1.laid (t' := s1.toks) (fun _ _ e => Heap.get?_push_of_some _ e) (Nat.le_refl _) ⟨z, us, 0, r, Heap.get?_push_size _ rfl⟩, rfl, ?_⟩
  exact q.to _ _ (I1.hok.fresh (Nat.le_refl _)) I1.big (keep_new (I1.hok.fresh (Nat.le_refl _))) upd_same
end
section
variable {X : Cx}
def rReprQ : List V → Hp → VK → Prop := fun xs H Q => ∃ (p : Addr) (d : PyData), xs = [.ref p] ∧ Dq H (.ref p) d ∧ d.showable = true ∧ d.depth ≤ 50 ∧ d.shown.length ≤ sizeLine ∧ Q (.str d.shown) H
theorem call_reprQ (hgd : X.A.guards = some []) (hu : X.A.units + 65 < cLine) : CallR X (.builtin "repr") rReprQ := fun pins s σ H xs us Q I r h => by
  obtain ⟨p, d, rfl, hd, hs, hdp, hz, q⟩ := h
  obtain ⟨u, rfl, ru⟩ : ∃ u, us = [u] ∧ RelV (.ref p) u := by
    cases r with
    | cons a b => cases b; exact ⟨_, rfl, a⟩
  cases (show u = Value.ref p from ru)
  obtain ⟨as, rd, hsm⟩ := Dq.reads I d _ _ hd ru
  exact repr_of_reads' rd hs (fun _ => hsm) hgd (by omega) (fun _ _ e => e) (fun h' u tk hk => ⟨.str d.shown, H, I.kept hk, ⟨_, rfl⟩, q⟩) hz
end
end FR
set_option Elab.async false
set_option linter.all false
set_option maxRecDepth 100000
set_option maxHeartbeats 2000000
/-! exceptions of the program with one field, value -/
namespace PySem
namespace ExV
open PySem.W PySem.Calls PyProof.Rows PySem.HandSPX
/-! ### the text of __init__ -/
def iA (p1 p2 : Pos) : Arguments := { posonlyargs := [], args := [{ arg := "self", annotation := none, pos := p1 }, { arg := "value", annotation := none, pos := p2 }], vararg := none, kwonlyargs := [], kw_defaults := [], kwarg := none, defaults := [] }
def iB (q1 q2 q3 q4 : Pos) : List Stmt := [.Assign [.Attribute (.Name "self" q1) "value" q2] (.Name "value" q3) q4]
def iS : Scope := { kind := .function, names := [(PySem.Str.ofString "self", .local), (PySem.Str.ofString "value", .local)], isGenerator := false, isCoroutine := false, more := [] }
/-- what the written part says of Low, at C, and of its __init__, at fI -/
structure LowTxt (K : Frag) (mg : Str → Option Value) (cn qn : Str) (C fI : Addr) : Prop where
  gC : mg cn = some (.ref C)
  cls : ∃ nm q N bs bm sn sub ab col dd k0 k1 k2 k3 k5, K.lookup C = some (excClassObj nm q C N bs bm true sn sub ab col dd k0 k1 k2 k3 k5 "ValueError.__new__") ∧ refsVE bm = true
  sa : findIn K (.ref C) "__setattr__" = some (some (.builtin "object.__setattr__"))
  ga : findIn K (.ref C) "__getattribute__" = some (some (.builtin "BaseException.__getattribute__"))
  gg : findIn K (.ref C) "__getattr__" = some none
  noN : findIn K (.ref C) "value" = some none
  iC : findIn K (.ref C) "__init__" = some (some (.ref fI))
  tC : typeIn K (.ref fI) = some (.type "function")
  kC : keepIn K (.ref C) = true
  exC : subIn K (.ref C) (.type "BaseException") = some true
  tyC : typeIn K (.ref C) = some (.type "type")
  hdC : hasDictIn K C = true
  te : exmOne K (.ref C) (.ref C) = some true
  fn : ∃ (oc : Value) (od : Option Addr) (doc pm : Value) (an : Option Addr) (cdv ct : Value) (osl : Array (Option Value)) (p1 p2 q1 q2 q3 q4 : Pos),
    K.lookup fI = some ⟨oc, od, .func (fnOf "__init__" qn (iA p1 p2) (iB q1 q2 q3 q4) iS .none .none doc pm an cdv ct), osl⟩ ∧ codeIn K cdv qn = true
theorem one_size (v : Value) : [v].length ≤ sizeLine := by
  rw [sizeLine_eq]
  exact (by decide : 1 ≤ 16777216)
theorem kept_but {K : Frag} {h h' : Heap} {x : Addr} (X : K.In h) (hx : K.lookup x = none) (k : ∀ b o, b ≠ x → h.get? b = some o → h'.get? b = some o) : K.In h' := fun a o e =>
  k a o (fun z => by rw [z, hx] at e; cases e) (X a o e)
theorem ldC {M : Model} {s : Shared} {name : Str} {scope : Scope} {L a : Addr} {cd : Value} {m : Str → Option Value} {x : Str} {pos : Pos} {v : Value} {Q : Value → Shared → Prop} {A : Around} {E : Value → Shared → Prop} (hn : s.heap.Ns L m) (hv : m x = some v) (h : Q v s)
    (hk : scope.kind = .function := by rfl) (hl : (envOfC name scope L a cd).kindOf x = some .local := by rfl) (hd : (x == ("__debug__" : Str)) = false := by decide) :
    wpAny M A (eval (.Name x pos) (envOfC name scope L a cd)) Q E s := wpAny_Name (wpAny_loadName_local hk hl hn hv h) hd
/-- what __init__ leaves of a fresh exception at x -/
structure InitEnd (h h' : Heap) (x C dx t1 : Addr) (v : Value) : Prop where
  keep : ∀ b o, b ≠ x → h.get? b = some o → h'.get? b = some o
  obj : h'.get? x = some { cls := .ref C, dict := some dx, data := .fields #[.ref t1, .none, .none, .none, .bool false, .none] }
  dbig : h.objs.size ≤ dx
  dne : dx ≠ x
  ns : h'.Ns1 dx (fun y => if y = "value" then some v else none)
/-- a made Low -/
structure OwnMade (h h' : Heap) (e C d : Addr) (v : Value) : Prop where
  keep : ∀ b o, h.get? b = some o → h'.get? b = some o
  new : h.objs.size ≤ e
  obj : ∃ oe vs, h'.get? e = some oe ∧ oe.cls = .ref C ∧ oe.dict = some d ∧ oe.data = .fields vs ∧ vs[1]? = some .none
  dbig : h.objs.size ≤ d
  dne : d ≠ e
  ns : h'.Ns1 d (fun y => if y = "value" then some v else none)
section
variable {prog : Program} {w : World} {A : Around} {E : Value → Shared → Prop} {R : Result → Shared → Prop} {s : Shared} {K : Frag} {mg : Str → Option Value} {C fI : Addr} {cn qn : Str}
theorem low_init (T : LowTxt K mg cn qn C fI) {x t0 : Addr} {v : Value} (X : K.In s.heap) (hlim : s.heap.NoLimit) (hx : s.heap.get? x = some (excO C t0)) (hnx : K.lookup x = none) (hroom : A.depth < recursionLimit)
    (hq : ∀ h' tk dx, InitEnd s.heap h' x C dx t0 v → R (.ok (.ret .none)) { s with heap := h', toks := tk }) :
    codeAny (model prog w) A (.call (.ref fI) ⟨[.ref x, v], []⟩) R s := by
  obtain ⟨oc, od, doc, pm, an, cdv, ct, osl, p1, p2, q1, q2, q3, q4, ho, hcd⟩ := T.fn
  obtain ⟨nm, q, N, bs, bm, sn, sub, ab, col, dd, k0, k1, k2, k3, k5, hC, hbm⟩ := T.cls
  have hcl : clsIn K C = some { name := nm, bases := bs, mro := .ref C :: bm, ns := N, qualname := q, hasDict := true, slotNames := sn, subclasses := sub, abstract := ab, collection := col, hasDel := false } := by unfold clsIn; rw [hC] <;> rfl
  refine Att.call_fn (binds := [("self", .ref x), ("value", v)]) X hlim ho hcd hroom (BindsTo.of_eq (by first | rfl | with_unfolding_all rfl)) (by first | rfl | decide | with_unfolding_all rfl) (fun s₁ IC => ?_) rfl rfl rfl
  obtain ⟨h₁, tk₁, rfl⟩ := IC.toInCall.same
  have k : ∀ b o, s.heap.get? b = some o → h₁.get? b = some o := IC.toInCall.keep
  have hn := IC.toInCall.ns
  have hxL : s.heap.objs.size ≠ x := Nat.ne_of_gt (Heap.lt_size hx)
  have X₁ : K.In h₁ := X.keeps k
  have hx₁ := k _ _ hx
  -- self.by = by
  show wpAny _ _ (execs _ _) _ _ _
  refine wpAny_execs_cons (plainObj_wpAny_Assign_Attribute ?_)
  refine ldC (v := v) hn (by first | rfl | with_unfolding_all rfl | kernel_rfl) (ldC (v := .ref x) hn (by first | rfl | with_unfolding_all rfl | kernel_rfl) ?_)
  refine set_plain X₁ (ox := excO C t0) (od := none) ⟨hx₁, rfl, rfl, trivial⟩ T.sa ?_
  refine exc_osa X₁ hx₁ hcl (show refsVE (.ref C :: bm) = true from hbm) rfl T.noN (fun h₃ tk₃ dx k₃ dn dne hx₃ hn₃ => ?_)
  show wpAny _ _ (execs _ _) _ _ _
  have z : s.heap.objs.size < h₁.objs.size := hn.lt
  exact wpAny_execs_nil (hq h₃ tk₃ dx ⟨fun b o hb e => k₃ b o hb (k b o e), hx₃, Nat.le_of_lt (Nat.lt_of_lt_of_le z dn), dne, hn₃⟩)
theorem low_made (T : LowTxt K mg cn qn C fI) {v : Value} (X : K.In s.heap) (hlim : s.heap.NoLimit) (hroom : A.depth + 1 < recursionLimit)
    (hq : ∀ h' tk e d, OwnMade s.heap h' e C d v → R (.ok (.ret (.ref e))) { s with heap := h', toks := tk }) :
    codeAny (model prog w) A (.call (.ref C) ⟨[v], []⟩) R s := by
  obtain ⟨nm, q, N, bs, bm, sn, sub, ab, col, dd, k0, k1, k2, k3, k5, hC, hbm⟩ := T.cls
  obtain ⟨hp, g, dr, tk, os⟩ := s
  have k : ∀ b o, hp.get? b = some o → ((hp.push (kdv_tup [v])).push (excO C hp.objs.size)).get? b = some o := fun b o e => Heap.get?_push_of_some _ (Heap.get?_push_of_some _ e)
  have hget : ((hp.push (kdv_tup [v])).push (excO C hp.objs.size)).get? (hp.objs.size + 1) = some (excO C hp.objs.size) := by heap_get
  have hnx : K.lookup (hp.objs.size + 1) = none := by
    cases e : K.lookup (hp.objs.size + 1) with
    | none => rfl
    | some o =>
      have z : hp.get? (hp.objs.size + 1) = some o := X _ _ e
      exact absurd (Nat.lt_of_succ_lt (Heap.lt_size z)) (Nat.lt_irrefl _)
  refine call_own F.excBase_ValueError (fun X => refsVE_contains X bm hbm) (X _ _ hC) (looks_findIn X T.iC) (fun self => bind_fn X self T.tC) (one_size v) ?_
  refine low_init (s := ⟨(hp.push (kdv_tup [v])).push (excO C hp.objs.size), g, dr, tk, os⟩) T (X.keeps k) (hlim.keeps k) hget hnx ?_ fun h' tk' dx ⟨k', hx, dn, dne, hns⟩ => ?_
  · show A.depth + 1 < recursionLimit
    exact hroom
  · have old : ∀ b o, hp.get? b = some o → h'.get? b = some o := fun b o e => k' b o (Nat.ne_of_lt (Nat.lt_succ_of_lt (Heap.lt_size e))) (k b o e)
    have z : hp.objs.size + 1 + 1 ≤ dx := by
      first
        | (simpa only [Heap.size_push] using dn)
        | exact dn
        | (have q := dn; rw [Heap.size_push, Heap.size_push] at q; exact q)
    exact ⟨rfl, hq h' tk' (hp.objs.size + 1) dx ⟨old, Nat.le_succ _, ⟨_, _, hx, rfl, rfl, rfl, rfl⟩, Nat.le_trans (Nat.le_trans (Nat.le_succ _) (Nat.le_succ _)) z, dne, hns⟩⟩
end
end ExV
end PySem
namespace L2
open PySem PySem.Spec PyProof.Rows
theorem relO_low {v : V} {v' : Value} (r : RelV v v') (f : Str) : RelO (List.lookup f [(("value" : Str), v)]) (if f = "value" then some v' else none) := by
  by_cases hw : f = "value"
  · subst hw
    rw [if_pos rfl]
    have q : List.lookup ("value" : Str) [(("value" : Str), v)] = some v := by simp [List.lookup]
    rw [q]
    exact r
  · rw [if_neg hw]
    have qw : (f == ("value" : Str)) = false := by simpa using hw
    have q2 : List.lookup f [(("value" : Str), v)] = none := by simp [List.lookup, qw]
    rw [q2]
    trivial
section
variable {X : Cx} {C fI : Addr} {cn qn : Str}
/-- Low(e) -/
def tMkLow (C : Addr) (ta : TA) : St → Hp → XK → Prop := fun σ H Q => ta σ H fun vs H1 => ∃ v, vs = [v] ∧ ∀ d, H1 d = none → Q (.ref C) (some d) (upd H1 d (.xd [(("value" : Str), v)]))
theorem pmk_low {a : Expr} {ta : TA} {p pos : Pos} {k : Nat} (T : PySem.ExV.LowTxt X.K X.mg cn qn C fI) (hr : Room k X.A) (ha : PA X [a] ta) (hdb : (cn == ("__debug__" : Str)) = false := by decide) (hg : Gl X cn := by rfl)
    (he : starEach (a :: []) X.env = (false, eval a X.env) :: starEach [] X.env := by rfl) (hpl : (backTo pos (starEach [] X.env)).any (·.1) = false := by rfl) :
    PMk X (.Call (.Name cn p) [a] [] pos) (tMkLow C ta) := by
  intro pins s σ H Q I h
  refine wpAny_Call_Name_kw (ld_glob I hg T.gC ?_ hdb)
  refine PySem.W.callWith_K (h₀ := X.base) I.ok.mod.kin T.kC (thn (ha.run pos pins s σ H _ I h) fun us s1 hh => ?_) he hpl
  obtain ⟨vs, H1, I1, r1, v, ev, q1⟩ := hh
  subst ev
  refine ⟨I1.kIn, ?_⟩
  cases r1 with
  | cons rv rn =>
    rename_i v' us'
    cases rn
    show wpAny _ _ (call (.ref C) [v']) _ _ _
    have hlim := I1.nolimit
    obtain ⟨hp, g, dr, tk, os⟩ := s1
    refine wpAny_call (PySem.ExV.low_made T I1.kIn hlim (by have := hr.dp; omega) fun h' tk' e d M => ?_)
    show MkP X pins σ Q (.ref e) ⟨h', g, dr, tk', os⟩
    obtain ⟨oe, fv, hoe, hc, hd, hdat, h1⟩ := M.obj
    have hns := M.ns
    obtain ⟨G', g1, g2⟩ := restrict h' fun b => decide (b ≠ e)
    have gk : ∀ b, b ≠ e → G'.get? b = h'.get? b := fun b hb => g1 b (decide_eq_true hb)
    have ge : G'.get? e = none := g2 e (by simp)
    have old : ∀ b o, hp.get? b = some o → G'.get? b = some o := fun b o q => (gk b (Nat.ne_of_lt (Nat.lt_of_lt_of_le (Heap.lt_size q) M.new))).trans (M.keep b o q)
    have ob : ObjOk X.prog X.w (upd H1 d (.xd [(("value" : Str), v)])) G' d (.xd [(("value" : Str), v)]) :=
      ⟨_, hns.at (fun o q => (gk d M.dne).trans q), fun f => relO_low rv f⟩
    have J : Inv X pins σ (upd H1 d (.xd [(("value" : Str), v)])) ⟨G', g, dr, tk', os⟩ := I1.laid (t' := tk') old M.dbig ob
    refine ⟨e, oe, fv, ⟨G', g, dr, tk', os⟩, _, .ref C, some d, rfl, J, fun b o q => ?_, ge, hoe, ⟨hc, hd⟩, hdat, h1, ?_, rfl, I1.bare, raises_own T.exC T.tyC, q1 d (I1.hok.fresh M.dbig)⟩
    · by_cases hb : b = e
      · have q' : G'.get? b = some o := q
        rw [hb, ge] at q'; cases q'
      · exact (gk b hb).symm.trans q
    · rw [upd_ne (Ne.symm M.dne)]
      exact I1.hok.fresh M.new
/-- raise Low(e) -/
def tRaiseLow (C : Addr) (W : WX) (ta : TA) : TS := fun _ σ H => tMkLow C ta σ H fun cls d H' => W cls d σ H'
theorem ps_raiseLow {a : Expr} {ta : TA} {W : WX} {p pos pos2 : Pos} {k : Nat} (hc : X.calm = true) (T : PySem.ExV.LowTxt X.K X.mg cn qn C fI) (hr : Room k X.A) (tk : Takes X W) (ha : PA X [a] ta) (hdb : (cn == ("__debug__" : Str)) = false := by decide) (hg : Gl X cn := by rfl)
    (he : starEach (a :: []) X.env = (false, eval a X.env) :: starEach [] X.env := by rfl) (hpl : (backTo pos (starEach [] X.env)).any (·.1) = false := by rfl) :
    PS X (.Raise (some (.Call (.Name cn p) [a] [] pos)) none pos2) (tRaiseLow C W ta) := ps_raise hc tk (pmk_low T hr ha hdb hg he hpl)
/-- low.by, low the exception that the suite holds (at a; its class cls, its dict d) -/
def tByLow (C : Addr) (a : Addr) (cls : Value) (d : Option Addr) (te : TE) : TE := fun σ H Q => te σ H fun x H1 => x = .ref a ∧ cls = .ref C ∧ ∃ (dd : Addr) (v : V), d = some dd ∧ H1 dd = some (.xd [(("value" : Str), v)]) ∧ Q v H1
theorem pe_byLow {a : Addr} {oe : Obj} {cls : Value} {d : Option Addr} {pn : List (Addr × Obj)} {e : Expr} {te : TE} {pos : Pos} (T : PySem.ExV.LowTxt X.K X.mg cn qn C fI) (hz : Zc cls d oe) (hf : ∃ vs, oe.data = .fields vs) (he : PE (X.suite a ((a, oe) :: pn)) e te)
    (hb : attributeBase e "value" X.env (eval e X.env) = eval e X.env := by rfl) :
    PE (X.suite a ((a, oe) :: pn)) (.Attribute e "value" pos) (tByLow C a cls d te) := by
  refine ⟨fun pins s σ H Q I h => ?_⟩
  refine attr_of hb (thn (he.run pins s σ H _ I h) fun u s1 hh => ?_)
  obtain ⟨x, H1, I1, rx, ex, ec, dd, v, ed, ea, q⟩ := hh
  subst ex
  obtain rfl : u = Value.ref a := rx
  subst ec
  subst ed
  obtain ⟨ha, _⟩ := I1.pin (a, oe) (List.mem_append_left _ List.mem_cons_self)
  obtain ⟨vs, hd⟩ := hf
  have hx : ObjOk X.prog X.w H1 s1.heap dd (.xd [(("value" : Str), v)]) := I1.hok dd _ ea
  obtain ⟨mA, hns, hr⟩ := hx
  obtain ⟨od, ho, hl⟩ := lookIn_ns hns
  have l : List.lookup ("value" : Str) [(("value" : Str), v)] = some v := by simp [List.lookup]
  obtain ⟨u, hu, ru⟩ := RelO.some_of (v := v) (o := mA "value") (by rw [← l]; exact hr "value")
  have J : PySem.W.InstAt s1.heap a oe C (some od) := ⟨ha, hz.1, by unfold PySem.W.notCls; rw [hd] <;> rfl, by rw [hz.2]; exact ho⟩
  exact HandSPX.exc_get I1.kIn J T.ga T.gg T.exC (PySem.W.findObj_own T.hdC T.noN rfl (by rw [hl, hu])) (handed_of ru) ⟨v, H1, I1.tok _, ru, q⟩
end
end L2
set_option Elab.async false
set_option linter.all false
set_option maxRecDepth 100000
set_option maxHeartbeats 2000000
/-! try with several clauses «except C as n» of one name; what no clause takes does not come -/
namespace FR
open PySem PySem.Spec PyProof.Rows L2 TL
/-- behind a suite the clause's name is gone -/
def gone (i : Nat) (D : Ends) : Ends := { nx := fun σ H => D.nx (σ.set i none) H, rt := D.rt, bk := fun σ H => D.bk (σ.set i none) H, ct := fun σ H => D.ct (σ.set i none) H }
def wAsM (K : PySem.W.Frag) (i : Nat) (D : Ends) : List (Value × (Addr → Value → Option Addr → TS)) → WX
  | [] => fun _ _ _ _ => False
  | (c, ts) :: r => fun cls d σ H => ∃ b, PySem.W.exmOne K cls c = some b ∧ (b = true → ∀ a, H a = none → ts a cls d (gone i D) (σ.set i (some (.ref a))) H) ∧ (b = false → wAsM K i D r cls d σ H)
inductive ClausesOk (X : Cx) (n : Str) : List ExceptHandler → List (Value × (Addr → Value → Option Addr → TS)) → Prop
  | nil {hds : List ExceptHandler} : ClausesOk X n hds []
  | cons {x : Str} {c : Value} {ts : Addr → Value → Option Addr → TS} {st : Stmt} {sts : List Stmt} {p1 p2 : Pos} {hds : List ExceptHandler} {l : List (Value × (Addr → Value → Option Addr → TS))} (hc : Names X x c)
      (hsu : ∀ (a : Addr) (oe : Obj) (cls : Value) (d : Option Addr) (pn : List (Addr × Obj)), Zc cls d oe → (∃ vs, oe.data = .fields vs) → PSs (X.suite a ((a, oe) :: pn)) (st :: sts) (ts a cls d)) (r : ClausesOk X n hds l) :
      ClausesOk X n (.ExceptHandler (some (.Name x p1)) (some n) (st :: sts) p2 :: hds) ((c, ts) :: l)
section
variable {X : Cx} {n : Str} {i : Nat} {body : List Stmt} {hd0 : ExceptHandler} {hds : List ExceptHandler} {l : List (Value × (Addr → Value → Option Addr → TS))} {pos : Pos} {tb : WX → TS}
theorem ps_try_asM (hs : X.stack = X.env :: X.outer) (hf : X.env.frame = some X.env.locals) (hN : X.N.Nodup) (hi : X.N[i]? = some n) (hln : X.env.kindOf n = some .local)
    (hb : ∀ (W : WX) (pn : List (Addr × Obj)) (xe : Value → Shared → Prop), Takes (X.tr pn xe) W → PassesOwn (model X.prog X.w) X.A X.env xe → PSs (X.tr pn xe) body (tb W))
    (hh : ClausesOk X n (hd0 :: hds) l) : PS X (.Try body (hd0 :: hds) [] [] pos) (fun D σ H => tb (wAsM X.K i D l) D σ H) := by
  refine ⟨fun pins s σ H D I h => wpAny_Try_except ?_⟩
  have okX := I.ok
  have fr : X.A.frames = some (X.env :: X.outer) := by rw [okX.frames, hs]
  let land : Value → Shared → Prop := fun e s1 => wpAny (model X.prog X.w) X.A (noteFrame e X.env) (fun _ s2 => wpAny (model X.prog X.w) X.A (setFlight e none) (fun _ s3 => wpAny (model X.prog X.w) X.A (handleBy e X.env (hd0 :: hds)) (SP X pins D) X.xe s3) X.xe s2) X.xe s1
  have caught : ∀ (u : Value) (s1 : Shared), XE (X.tr (X.pn ++ pins) land) (wAsM X.K i D l) u s1 → land u s1 := by
    intro u s1 xx
    obtain ⟨a, B, sI, _, σ1, H1, cls, d, rfl, J0, nb, up, sky, na, os, ag, w⟩ := xx
    have J : Inv X pins σ1 H1 sI := J0.ofTry okX
    show wpAny (model X.prog X.w) X.A (noteFrame (.ref a) X.env) _ _ _
    refine Sky.land Zc.steady fr hf (by rw [← hs]; exact sky) fun g1 fl1 up1 => ?_
    have K1 : Inv X pins σ1 H1 { s1 with heap := g1 } := J.landed nb fl1.1 (up.trans up1) os ag
    obtain ⟨ob, fv, e1, z1, d1⟩ := fl1.there
    have out : a ∉ frs (X.env :: X.outer) := fun m => by
      obtain ⟨_, o2, e2, q⟩ := fl1.2.2.1.mem m
      cases e1.symm.trans e2
      exact q _ d1
    have n1 : a ≠ X.env.locals := fun z => out (List.mem_filterMap.mpr ⟨_, List.mem_cons_self, by rw [hf, z]⟩)
    have n2 : a ∉ X.fs := fun m => by
      obtain ⟨e2, m2, q⟩ := List.mem_filterMap.mp m
      exact out (List.mem_filterMap.mpr ⟨e2, List.mem_cons_of_mem _ m2, q⟩)
    have S1 := K1.suite e1 d1 na n1 n2
    have each : ∀ {cs : List ExceptHandler} {ws : List (Value × (Addr → Value → Option Addr → TS))}, ClausesOk X n cs ws → wAsM X.K i D ws cls d σ1 H1 → wpAny (model X.prog X.w) X.A (handleBy (.ref a) X.env cs) (SP X pins D) X.xe { s1 with heap := g1 } := by
      intro cs ws ck
      induction ck with
      | nil => exact fun z => z.elim
      | @cons x c ts st sts p1 p2 more wmore hc hsu _ ih =>
        rintro ⟨b, hm, yes, no⟩
        refine wpAny_handleBy_cons (codeAny_handlers_test ?_) (fun q => by cases q)
        have ty : PySem.W.Looks (model X.prog X.w) g1 (typeOf (.ref a)) cls := fun _ _ _ _ k q => wpAny_typeOf_ref (k _ _ e1) (by rw [z1.1]; exact q)
        have one := PySem.W.exm_one (M := model X.prog X.w) K1.kIn ty hm
        have named : ∀ {Q E : Value → Shared → Prop}, Q c { s1 with heap := g1 } → wpAny (model X.prog X.w) (X.A.mark (some (.ref a))) (eval (.Name x p1) X.env) Q E { s1 with heap := g1 } := by
          intro Q E q
          obtain ⟨y1, y2, y3 | ⟨y3, y4, y5⟩⟩ := hc
          · exact ld_glob (X := X.suite a ((a, ob) :: (X.pn ++ pins))) S1 y1 y3 q y2
          · exact ld_blt (X := X.suite a ((a, ob) :: (X.pn ++ pins))) S1 y1 y3 y4 q y5 y2
        refine named (one.here ?_)
        cases b with
        | false => exact ih (no rfl)
        | true =>
          refine codeAny_handlers_suite_as (HandSPX.lands_againZ fl1 fun g2 fl2 up2 => ?_)
          obtain ⟨oc, fw, e2, z2, d2⟩ := fl2.there
          have K2 : Inv X pins σ1 H1 { s1 with heap := g2 } := J.landed nb fl2.1 ((up.trans up1).trans up2) os ag
          have S2 := K2.suite e2 d2 na n1 n2
          refine store_ok (X := X.suite a ((a, oc) :: (X.pn ++ pins))) (v := .ref a) S2 hN hi (.inl hln) rfl (fun s5 S5 => ?_) (.inr hln)
          refine wpAny_mono ((hsu a oc cls d (X.pn ++ pins) z2 ⟨_, d2⟩).run [] s5 _ H1 _ S5 (yes rfl a na)) (fun f s6 hz => ?_) (fun _ _ z => z.elim)
          have ends : ∀ {σ6 : L2.St} {H6 : Hp} {Q : Shared → Prop}, Inv (X.suite a ((a, oc) :: (X.pn ++ pins))) [] σ6 H6 s6 → (∀ s7, Inv X pins (σ6.set i none) H6 s7 → Q s7) → wpAny (model X.prog X.w) X.A (do bindName X.env n .none; unbindBehindTheSuite X.env n p2) (fun _ s7 => Q s7) X.xe s6 :=
            fun S6 hq => gone_ok (S6.unsuite okX) hN hi hln hq
          match f, hz with
          | .next, ⟨_, _, S6, q6⟩ => exact ends S6 fun _ J7 => ⟨_, _, J7, q6⟩
          | .brk, ⟨_, _, S6, q6⟩ => exact ends S6 fun _ J7 => ⟨_, _, J7, q6⟩
          | .cont, ⟨_, _, S6, q6⟩ => exact ends S6 fun _ J7 => ⟨_, _, J7, q6⟩
          | .ret _, ⟨_, _, _, S6, r6, q6⟩ => exact ends S6 fun _ J7 => ⟨_, _, _, J7, r6, q6⟩
    exact each hh w
  refine wpAny_mono ((hb _ _ land caught PassesOwn.looking).run [] s σ H D (I.toTry _) h) (fun f s1 hz => ?_) (fun _ _ z => z)
  match f, hz with
  | .next, ⟨_, _, J, q⟩ => exact wpAny_execs_nil ⟨_, _, J.ofTry okX, q⟩
  | .brk, ⟨_, _, J, q⟩ => exact ⟨_, _, J.ofTry okX, q⟩
  | .cont, ⟨_, _, J, q⟩ => exact ⟨_, _, J.ofTry okX, q⟩
  | .ret _, ⟨_, _, _, J, r, q⟩ => exact ⟨_, _, _, J.ofTry okX, r, q⟩
end
end FR
set_option Elab.async false
set_option linter.all false
set_option maxRecDepth 100000
/-! isinstance of the exception that a suite holds, one with fields -/
namespace FR
open PySem PySem.Spec PyProof.Rows L2 TL
/-- the exception that the suite holds is one of the class D, with its own dict -/
def HeldE (K : PySem.W.Frag) (cls : Value) (d : Option Addr) (H : Hp) (D : Addr) : Prop := cls = .ref D ∧ ExcC K D ∧ ∃ (dd : Addr) (fs : List (Str × V)), d = some dd ∧ H dd = some (.xd fs)
section
variable {X : Cx} {a : Addr} {oe : Obj} {pn : List (Addr × Obj)} {cls : Value} {d : Option Addr} {pins : List (Addr × Obj)} {σ : L2.St} {H : Hp} {s : Shared} {D : Addr}
theorem kit_held (hz : Zc cls d oe) (hf : ∃ vs, oe.data = .fields vs) (I : Inv (X.suite a ((a, oe) :: pn)) pins σ H s) (h : HeldE X.K cls d H D) : ∃ od, PySem.W.KitX X.K (.ref a) (.ref D) (fun g => PySem.W.InstAt g a oe D (some od)) ∧ PySem.W.InstAt s.heap a oe D (some od) := by
  obtain ⟨rfl, C, dd, fs, rfl, hx⟩ := h
  obtain ⟨hget, _⟩ := I.pin (a, oe) (List.mem_append_left _ List.mem_cons_self)
  obtain ⟨vs, hv⟩ := hf
  obtain ⟨mA, hns, _⟩ := (show ObjOk X.prog X.w H s.heap dd (.xd fs) from I.hok dd _ hx)
  obtain ⟨od, ho, _⟩ := lookIn_ns hns
  obtain ⟨cd, hc, _⟩ := PySem.W.any_some C.hd
  refine ⟨od, PySem.W.kitx_exc (by rw [hc]; rfl) C.hg C.hk C.hs C.ha C.hn C.ht C.hm, hget, hz.1, ?_, ?_⟩
  · unfold PySem.W.notCls
    rw [hv] <;> rfl
  · rw [hz.2]
    exact ho
def rIsH (K : PySem.W.Frag) (a : Addr) (cls : Value) (d : Option Addr) : List V → Hp → VK → Prop := fun xs H Q => ∃ (D : Addr) (c : V) (cv : Value) (b : Bool), HeldE K cls d H D ∧ xs = [.ref a, c] ∧ ClsV c cv ∧ PySem.W.kitOne K (.ref D) cv = some b ∧ Q (.bl b) H
theorem call_isH (hz : Zc cls d oe) (hf : ∃ vs, oe.data = .fields vs) : CallR (X.suite a ((a, oe) :: pn)) (.builtin "isinstance") (rIsH X.K a cls d) := by
  intro pins s σ H xs us Q I r h
  obtain ⟨D, c, cv, b, hh, rfl, hc, e, q⟩ := h
  cases r with
  | cons rx rr =>
    cases rr with
    | cons rt rr =>
      cases rr
      cases (show _ = Value.ref a from rx)
      cases hc.eq rt
      obtain ⟨od, Z, J⟩ := kit_held hz hf I hh
      exact PySem.W.kia_one Z I.kIn J e (fun z => nomatch z) fun tk => ⟨.bl b, H, I.tok tk, rfl, q⟩
def rIsHT (K : PySem.W.Frag) (a : Addr) (cls : Value) (d : Option Addr) : List V → Hp → VK → Prop := fun xs H Q => ∃ (D tp : Addr) (cs : List V) (cvs : List Value) (b : Bool), HeldE K cls d H D ∧ xs = [.ref a, .ref tp] ∧ H tp = some (.tup cs) ∧ Paired ClsV cs cvs ∧ PySem.W.kitAny K (.ref D) cvs = some b ∧ Q (.bl b) H
theorem call_isHT (hz : Zc cls d oe) (hf : ∃ vs, oe.data = .fields vs) : CallR (X.suite a ((a, oe) :: pn)) (.builtin "isinstance") (rIsHT X.K a cls d) := by
  intro pins s σ H xs us Q I r h
  obtain ⟨D, tp, cs, cvs, b, hh, rfl, ht, hc, e, q⟩ := h
  cases r with
  | cons rx rr =>
    cases rr with
    | cons rt rr =>
      cases rr
      cases (show _ = Value.ref a from rx)
      cases (show _ = Value.ref tp from rt)
      obtain ⟨od, Z, J⟩ := kit_held hz hf I hh
      obtain ⟨_, its, rv, ⟨oc, od2, dt, sl⟩, h1, h2, n, h3⟩ := (show ObjOk X.prog X.w H s.heap tp (.tup cs) from I.hok tp _ ht)
      have e3 := ClsV.all hc rv
      subst e3
      simp only at h2 h3
      subst h2 h3
      exact PySem.W.kia_tup Z I.kIn J h1 e (fun z => nomatch z) fun tk => ⟨.bl b, H, I.tok tk, rfl, q⟩
end
end FR
set_option Elab.async false
set_option linter.all false
set_option maxRecDepth 100000
/-! a text beside a dict; «x not in texts» for anything -/
namespace FR
open PySem PySem.Spec PyProof.Rows L2 TL PySem.SeqAt
theorem str_eq_dict (b : Str) (u : Tok) (l : Addr) (c : Value) (es : Array DictEntry) (n : Nat) (dd : Option Addr) (sl : Array (Option Value)) :
    Meets (Builtin.«str.__eq__» ⟨[.str b u, .ref l], []⟩) (fun _ R s => s.heap.get? l = some { cls := c, dict := dd, data := .dict es n, slots := sl } ∧ R (.ok (.ret .notImplemented)) s) :=
  .of_wp fun prog w A R s h => by
    obtain ⟨hp, g, d, tk, os⟩ := s
    obtain ⟨hl, h⟩ := h
    wp_walk using wpAny_loadPart' hl, wpAny_load hl
    exact ⟨_, rfl, h⟩
theorem dict_eq_str (b : Str) (u : Tok) (l : Addr) (c : Value) (es : Array DictEntry) (n : Nat) (dd : Option Addr) (sl : Array (Option Value)) :
    Meets (Builtin.«dict.__eq__» ⟨[.ref l, .str b u], []⟩) (fun _ R s => s.heap.get? l = some { cls := c, dict := dd, data := .dict es n, slots := sl } ∧ R (.ok (.ret .notImplemented)) s) :=
  .of_wp fun prog w A R s h => by
    obtain ⟨hp, g, d, tk, os⟩ := s
    obtain ⟨hl, h⟩ := h
    have f1 := F.sub_str_dict
    wp_walk using wpAny_loadPart' hl, wpAny_load hl
    exact ⟨_, rfl, h⟩
theorem eqAt_str_dict {A : Around} {s : Shared} {l : Addr} {o : Obj} {es : Array DictEntry} {n : Nat} (b : Str) (u : Tok) (ho : s.heap.get? l = some o) (hx : o.cls = .type "dict") (hd : o.data = .dict es n) (hu : A.units < cLine) : EqAt A s (.str b u) (.ref l) false := fun prog w E Q h => by
  unfold eqBool
  refine wpAny_holding (wpAny_ite_split (fun hab => absurd (eq_of_beq hab) nofun) (fun _ => wpAny_bind ?_))
  obtain ⟨cls, dd, data, sl⟩ := o
  simp only at hx hd
  subst hx hd
  exact rc_eq_decline_or (k := false) (typeIs_str s b u) ⟨_, ho, rfl⟩ (by decide) F.sub_dict_str F.slot_str_eq F.slot_dict_eq_refl
    (fun _ hq => call_meets F.slot_str_eq (typeIs_str s b u) F.entry_str_eq (F.args_str_eq_2 _ _) (str_eq_dict b u l (.type "dict") es n dd sl) ⟨ho, hq⟩)
    (fun _ hq => call_meets F.slot_dict_eq_refl ⟨_, ho, rfl⟩ F.entry_dict_eq (F.args_dict_eq_2 _ _) (dict_eq_str b u l _ es n dd sl) ⟨ho, hq⟩)
    (fun _ hq => wpAny_of_eq (rfl : isSame (.str b u) (.ref l) = pure false) hq) (.inr hu) (wpAny_truthy_bool h)
section
variable {X : Cx}
theorem vals_strs : ∀ {ws : List Str} {us : List Value}, Vals (ws.map V.str) us → ∀ u ∈ us, ∃ x t, u = Value.str x t
  | [], _, h, u, hu => by
    cases h
    simp at hu
  | w :: r, _, .cons a b, u, hu => by
    rcases List.mem_cons.mp hu with rfl | hu
    · obtain ⟨t, rfl⟩ := a
      exact ⟨_, t, rfl⟩
    · exact vals_strs b u hu
/-- what «v not in the texts ws» gives -/
def NInW (K : PySem.W.Frag) (H : Hp) (v : V) (ws : List Str) (r : Bool) : Prop := (flatV v = true ∧ (!inV v (ws.map V.str)) = r) ∨ (∃ d, Dp K H v d ∧ SeqAt.shaped d = true ∧ SeqAt.shaped (.list (ws.map .str)) = true ∧ (!(ws.map PyData.str).any fun z => PyData.eqv z d) = r) ∨
  ∃ (a : Addr) (kvs : List (Key × V)), v = .ref a ∧ H a = some (.dK kvs) ∧ true = r
def rNotInW (K : PySem.W.Frag) : R2 := fun x y H Q => ∃ (p : Addr) (ws : List Str) (r : Bool), y = .ref p ∧ SqL K H p (ws.map V.str) ∧ NInW K H x ws r ∧ Q (.bl r) H
theorem op_notInW (hu : X.A.units + 65 < cLine) : OpR X (compareOp .NotIn) (rNotInW X.K) := by
  intro pins s σ H x y v u Q I rx ry h
  obtain ⟨p, ws, r, rfl, hp, ⟨hf, rfl⟩ | ⟨d, hd, s1, s2, rfl⟩ | ⟨a, kvs, rfl, ha, rfl⟩, q⟩ := h
  · exact op_notIn_seq pins s σ H x _ v u Q I rx ry ⟨p, _, rfl, .inl hp, hf, flat_strs ws, q⟩
  · exact op_notInD hu pins s σ H x _ v u Q I rx ry ⟨d, _, hd, .lst hp (dpAll_strs ws), s1, s2, q⟩
  · cases (show v = Value.ref a from rx)
    cases (show u = Value.ref p from ry)
    obtain ⟨_, _, vs, kv, o, es, ep, e, hx, hd, _, _, _⟩ := (show ObjOk X.prog X.w H s.heap a (.dK _) from I.hok _ _ ha)
    obtain ⟨its, rv, hl, _⟩ := I.list hp
    refine notIn_listAt (fun _ => false) hl.isList (fun z hz => ?_) ⟨.bl true, H, I, ?_, q⟩
    · obtain ⟨x, t, rfl⟩ := vals_strs rv z (by simpa using hz)
      exact eqAt_str_dict x t e hx.1 hd (by show X.A.units + 1 < cLine; omega)
    · show Value.bool _ = Value.bool true
      simp
theorem op_notInWK {X : Cx} {K : PySem.W.Frag} (h : X.K = K) (hu : X.A.units + 65 < cLine) : OpR X (compareOp .NotIn) (rNotInW K) := h ▸ op_notInW hu
end
end FR
set_option Elab.async false
set_option linter.all false
set_option maxRecDepth 100000
/-! raising defs with a star parameter, called -/
namespace FR
open PySem PySem.Spec PyProof.Rows L2 TL
theorem okStarX {P : Program} {w : World} {K : PySem.W.Frag} {mg : Str → Option Value} {base : Heap} {x qual pv : Str} {st : Stmt} {f : Addr} {fd : FuncData} {N ps : List Str} {k : Nat} {sp : Sp} (F : L2.Fun K x qual st f fd) (S : FnScope N (ps ++ [pv]) (defScope st))
    (hb : ∀ (kV doc pm : Value) (an : Option Addr) (cdv ct : Value) (us rest : List Value), us.length = ps.length → bindArgs (PySem.W.fnOf x qual (defArgs st) (defBody st) (defScope st) .none kV doc pm an cdv ct) ⟨us ++ rest, []⟩ = (newTuple rest >>= fun t => pure (ps.zip us ++ [(pv, t)])))
    (hbody : ∀ (cdv : Value) (A : Around) (outer : List Env) (s : Shared) (H : Hp) (vs : List V) (Q : VK) (E : XK), Room k (A.deeper (envOfC qual (defScope st) s.heap.objs.size f cdv)) → sp vs H Q E →
      ∃ t, PSs (cxOf (L2.CX P w) P w K mg base N qual (defScope st) f cdv A outer s H E) (defBody st) t ∧ t { nx := fun _ H' => Q .non H', rt := Q } (start N vs) H) :
    FnR P w K mg base (L2.CX P w) (k + 1) f (fun vs H Q E => ∃ ws rest, vs = ws ++ rest ∧ ws.length = ps.length ∧ rest.length ≤ sizeLine ∧ ∀ p, H p = Option.none → sp (ws ++ [V.ref p]) (upd H p (.tup rest)) Q E) := by
  obtain ⟨oc, od, kV, doc, pm, an, cdv, ct, osl, rfl, lk, hcd⟩ := F.ex
  exact StX.fn_star lk hcd S StX.cxUp (hb kV doc pm an cdv ct) fun A outer s H vs Q E hr hsp => hbody cdv A outer s H vs Q E hr hsp
section
variable {X : Cx} {CX : CXT} {k : Nat} {f : Addr} {sp : Sp} {E : L2.St → XK} {x : Str} {e : Expr} {es : List Expr} {t : TA} {p pos : Pos}
theorem pe_callRX (F : FnR X.prog X.w X.K X.mg X.base CX k f sp) (hr : Room k X.A) (hk : PySem.W.keepIn X.K (.ref f) = true) (hg : Gl X x) (hm : X.mg x = some (.ref f)) (hx : ∀ σ, PassesAt CX X σ (E σ)) (ha : PA X (e :: es) t) (hd : (x == ("__debug__" : Str)) = false := by decide)
    (he : starEach (e :: es) X.env = (false, eval e X.env) :: starEach es X.env := by rfl) (hpl : (backTo pos (starEach es X.env)).any (·.1) = false := by rfl) :
    PE X (.Call (.Name x p) (e :: es) [] pos) (fun σ H Q => t σ H fun vs H1 => sp vs H1 Q (E σ)) := ⟨fun pins s σ H Q I h => by
  refine wpAny_Call_Name_kw (ld_glob I hg hm (PySem.W.callWith_K (h₀ := X.base) I.ok.mod.kin hk (thn (ha.run pos pins s σ H _ I h) fun us s1 hz => ?_) he hpl) hd)
  obtain ⟨vs, H1, I1, r, q⟩ := hz
  refine ⟨I1.kIn, wpAny_call (codeAny_mono (F X.A X.stack s1 H1 us vs Q (E σ) hr I1.env0 r q) fun rr s' hq => ?_)⟩
  match rr, hq with
  | .error ee, hq => exact hx σ pins H1 s1 ee s' I1 hq
  | .ok (.ret u), hq => exact I1.after hq
  | .ok .next, hq => exact hq.elim
  | .ok .brk, hq => exact hq.elim
  | .ok .cont, hq => exact hq.elim⟩
end
end FR
set_option Elab.async false
set_option linter.all false
set_option maxRecDepth 100000
/-! how long a shown list is; facts that hang on some addresses alone -/
namespace FR
open PySem PySem.Spec PyProof.Rows L2 TL
theorem len_sep : (Str.ofString ", ").length = 2 := by decide +kernel
theorem len_open : (Str.ofString "[").length = 1 := by decide +kernel
theorem len_close : (Str.ofString "]").length = 1 := by decide +kernel
theorem len_none : (Str.ofString "").length = 0 := by decide +kernel
theorem shown3 (a b c : PyData) : (PyData.list [a, b, c]).shown.length = a.shown.length + b.shown.length + c.shown.length + 6 := by
  show (listText [a.shown, b.shown, c.shown]).length = _
  unfold listText
  rw [len_app, len_close]
  show ((((((Str.ofString "[" ++ Str.ofString "") ++ a.shown) ++ Str.ofString ", ") ++ b.shown) ++ Str.ofString ", ") ++ c.shown).length + 1 = _
  rw [len_app, len_app, len_app, len_app, len_app, len_app, len_open, len_none, len_sep]
  omega
theorem shown2 (a b : PyData) : (PyData.list [a, b]).shown.length = a.shown.length + b.shown.length + 4 := by
  show (listText [a.shown, b.shown]).length = _
  unfold listText
  rw [len_app, len_close]
  show ((((Str.ofString "[" ++ Str.ofString "") ++ a.shown) ++ Str.ofString ", ") ++ b.shown).length + 1 = _
  rw [len_app, len_app, len_app, len_app, len_open, len_none, len_sep]
  omega
theorem Keep.trans0 {H H1 : Hp} {D : Addr} {o : HO} (k : Keep [] H H1) (hD : H D = none) : Keep [] H (upd H1 D o) := fun b u e hb => by
  rw [upd_ne (ne_of_none e hD)]
  exact k b u e hb
def Held (S : List Addr) (H : Hp) (F : Hp → Prop) : Prop := (∀ a ∈ S, H a ≠ none) ∧ ∀ H', (∀ a ∈ S, H' a = H a) → F H'
section
variable {S T M : List Addr} {H H' : Hp} {F G : Hp → Prop}
theorem Held.at (h : Held S H F) : F H := h.2 H fun _ _ => rfl
theorem Held.mono (h : Held S H F) (k : Keep M H H') (d : ∀ a ∈ S, a ∉ M) : Held S H' F := by
  have e : ∀ a ∈ S, H' a = H a := fun a ha => by
    cases e : H a with
    | none => exact absurd e (h.1 a ha)
    | some o => exact k a o e (d a ha)
  exact ⟨fun a ha => by rw [e a ha]; exact h.1 a ha, fun H2 e2 => h.2 H2 fun a ha => (e2 a ha).trans (e a ha)⟩
theorem Held.mono0 (h : Held S H F) (k : Keep [] H H') : Held S H' F := h.mono k (by simp)
theorem Held.and (h : Held S H F) (g : Held T H G) : Held (S ++ T) H (fun H => F H ∧ G H) :=
  ⟨fun a ha => (List.mem_append.mp ha).elim (h.1 a) (g.1 a), fun H2 e => ⟨h.2 H2 fun a ha => e a (List.mem_append_left _ ha), g.2 H2 fun a ha => e a (List.mem_append_right _ ha)⟩⟩
theorem Held.imp (h : Held S H F) (i : ∀ H, F H → G H) : Held S H G := ⟨h.1, fun H2 e => i _ (h.2 H2 e)⟩
theorem Held.none (h : ∀ H, F H) : Held [] H F := ⟨by simp, fun H2 _ => h H2⟩
theorem Held.one {a : Addr} {o : HO} (h : H a = some o) (i : ∀ H2 : Hp, H2 a = some o → F H2) : Held [a] H F := ⟨fun x hx => by rw [List.mem_singleton.mp hx, h]; simp, fun H2 e => i H2 ((e a (by simp)).trans h)⟩
theorem Held.fresh (h : Held S H F) {p : Addr} (np : H p = Option.none) : p ∉ S := fun hp => h.1 p hp np
end
theorem Dq.mono {H H' : Hp} (k : Keep [] H H') {v : V} {d : PyData} (h : Dq H v d) : Dq H' v d := by
  refine Dq.rec (motive_1 := fun v d _ => Dq H' v d) (motive_2 := fun vs ds _ => DqAll H' vs ds) (motive_3 := fun vs ds _ => DqKv H' vs ds) .non .bl .int .str ?_ ?_ ?_ .nil (fun _ _ a b => .cons a b) .nil (fun _ _ a b => .cons a b) h
  · intro a xs ds hx hb _ ih
    exact .lst (k _ _ hx (by simp)) hb ih
  · intro a xs ds hx _ ih
    exact .tup (k _ _ hx (by simp)) ih
  · intro a kvs ds hx _ ih
    exact .dct (k _ _ hx (by simp)) ih
theorem u65 {k : Nat} {A : Around} (r : Room k A) : A.units + 65 < cLine := by have := r.un; omega
theorem okG0 {P : Program} {w : World} {K : PySem.W.Frag} {mg : Str → Option Value} {base : Heap} {k : Nat} {f : Addr} {sp : Sp} {x qual : Str} {st : Stmt} {fd : FuncData} {N ps : List Str} (F : L2.Fun K x qual st f fd) (S : FnScope N ps (defScope st)) (B : Binds K fd ps []) (hlen : ∀ vs H Q E, sp vs H Q E → vs.length = ps.length)
    (hbody : ∀ (cdv : Value) (A : Around) (outer : List Env) (s : Shared) (H : Hp) (vs : List V) (Q : VK) (E : XK), A.guards = some [] → Room k (A.deeper (envOfC qual (defScope st) s.heap.objs.size f cdv)) → sp vs H Q E →
      ∃ t, PSs (cxOf CX0 P w K mg base N qual (defScope st) f cdv A outer s H E).nox (defBody st) t ∧ t { nx := fun _ H' => Q .non H', rt := Q } (start N vs) H) : FnG P w K mg base CX0 (k + 1) f sp :=
  okG F S B hlen fun cdv A outer s H vs Q E hg hr hs => (hbody cdv A outer s H vs Q E hg hr hs).elim fun t h => ⟨t, h.1.nox, h.2⟩
end FR
set_option Elab.async false
set_option linter.all false
set_option maxRecDepth 100000
/-! what `except` and isinstance say of two classes of the text -/
namespace FR
open PySem PySem.Spec PyProof.Rows L2
/-- an error of the class at S is what «except T» names, or not -/
theorem exm_of {K : PySem.W.Frag} {t S : Addr} {b : Bool} (h1 : PySem.W.subIn K (.ref S) (.type "BaseException") = some true) (h2 : PySem.W.isClsIn K S = true) (h3 : PySem.W.typeIn K (.ref S) = some (.type "type")) (h4 : PySem.W.subIn K (.ref t) (.ref S) = some b) :
    PySem.W.exmOne K (.ref t) (.ref S) = some b := by
  have e1 : (PySem.W.subIn K (.ref S) (.type "BaseException") == some true) = true := by rw [h1] <;> rfl
  have e2 : ((PySem.W.clsIn K S).isSome && PySem.W.typeIn K (.ref S) == some (.type "type")) = true := by
    rw [show (PySem.W.clsIn K S).isSome = true from h2, h3] <;> rfl
  unfold PySem.W.exmOne
  rw [if_pos e1]
  show (if ((PySem.W.clsIn K S).isSome && PySem.W.typeIn K (.ref S) == some (.type "type")) = true then PySem.W.subIn K (.ref t) (.ref S) else none) = some b
  rw [if_pos e2]
  exact h4
theorem kit_of {K : PySem.W.Frag} {t S : Addr} {b : Bool} (hs : PySem.W.subIn K (.ref t) (.ref t) = some true) (h2 : PySem.W.isClsIn K S = true) (h3 : PySem.W.typeIn K (.ref S) = some (.type "type")) (h4 : PySem.W.subIn K (.ref t) (.ref S) = some b) :
    PySem.W.kitOne K (.ref t) (.ref S) = some b := by
  have e2 : ((PySem.W.clsIn K S).isSome && PySem.W.typeIn K (.ref S) == some (.type "type")) = true := by
    rw [show (PySem.W.clsIn K S).isSome = true from h2, h3] <;> rfl
  unfold PySem.W.kitOne
  by_cases e : ((Value.ref t : Value) == .ref S) = true
  · rw [if_pos e]
    have e' : t = S := by simpa using e
    subst e'
    exact hs.symm.trans h4
  · rw [if_neg e]
    show (if ((PySem.W.clsIn K S).isSome && PySem.W.typeIn K (.ref S) == some (.type "type")) = true then PySem.W.subIn K (.ref t) (.ref S) else none) = some b
    rw [if_pos e2]
    exact h4

end FR
set_option Elab.async false
set_option linter.all false
set_option maxRecDepth 100000
/-! operators, `in`, len, bool, str and == of own classes whose instances have a dict -/
namespace FR
open PySem PySem.Spec PyProof.Rows L2 TL
open SlX (cmpback run_at)
section
variable {X : Cx} {pins : List (Addr × Obj)} {σ : L2.St} {H : Hp} {s : Shared} {C g : Addr} {n : Nat} {sp : Sp} {E : XK} {CX : CXT}
theorem ins_inst {a dx : Addr} {fs : List (Str × V)} (I : Inv X pins σ H s) (e : H a = some (.ins C dx fs)) : ∃ od, PySem.W.InstAt s.heap a (PySem.W.instObj C dx) C (some od) := by
  obtain ⟨mA, O, _⟩ := ins_get I.hok e
  obtain ⟨od, J, _⟩ := O.look
  exact ⟨od, J⟩
/-- x op y, both of the class at C, its def for op at g -/
def rBinI (C : Addr) (sp : Sp) (E : XK) : R2 := fun x y H Q => ∃ a dx fs b dy gs, x = .ref a ∧ y = .ref b ∧ H a = some (.ins C dx fs) ∧ H b = some (.ins C dy gs) ∧ sp [x, y] H Q E
theorem op_binI {op : Operator} (hc : PySem.W.selfFirst X.K C = true) (hs : PySem.W.findIn X.K (.ref C) (PySem.dunder op.info.2) = some (some (.ref g))) (hf : PySem.W.isFn X.K (.ref g) = true) (F : FnR X.prog X.w X.K X.mg X.base CX n g sp)
    (hr : Room n X.A) (hx : Passes CX X E) : OpR X (binaryOp op) (rBinI C sp E) := by
  intro pins s σ H x y v u Q I rx ry h
  obtain ⟨a, dx, fs, b, dy, gs, rfl, rfl, ha, hb, q⟩ := h
  cases (show v = Value.ref a from rx)
  cases (show u = Value.ref b from ry)
  obtain ⟨od, J⟩ := ins_inst I ha
  obtain ⟨od', J'⟩ := ins_inst I hb
  obtain ⟨m, hF⟩ := I.fr
  refine PySem.W.binop_K (op := op) hF I.ok.mod.kin J J'.type hc hs hf ?_
  refine wpAny_mono (wpAny_call (run_fnR (us := [.ref a, .ref b]) (vs := [.ref a, .ref b]) F hr hx I (.cons rfl (.cons rfl .nil)) q)) (fun w s' z => ?_) fun _ _ x => x
  obtain ⟨z', H', I', rz, qz⟩ := z
  exact cmpback rz ⟨z', H', I', rz, qz⟩
/-- ~x -/
def rInvI (C : Addr) (sp : Sp) (E : XK) : V → Hp → VK → Prop := fun x H Q => ∃ a dx fs, x = .ref a ∧ H a = some (.ins C dx fs) ∧ sp [x] H Q E
theorem un_invI (hs : PySem.W.findIn X.K (.ref C) "__invert__" = some (some (.ref g))) (hf : PySem.W.isFn X.K (.ref g) = true) (F : FnR X.prog X.w X.K X.mg X.base CX n g sp)
    (hr : Room n X.A) (hx : Passes CX X E) : UnR X (unaryOp .Invert) (rInvI C sp E) := by
  intro pins s σ H x v Q I rx h
  obtain ⟨a, dx, fs, rfl, ha, q⟩ := h
  cases (show v = Value.ref a from rx)
  obtain ⟨od, J⟩ := ins_inst I ha
  obtain ⟨m, hF⟩ := I.fr
  exact PySem.W.ksp_inv hF I.ok.mod.kin J hs hf (wpAny_call (run_fnR (us := [.ref a]) (vs := [.ref a]) F hr hx I (.cons rfl .nil) q))
/-- x op y (a comparison), x of the class at C whose def for it is at g, y an instance of it too -/
def rCmpI (C : Addr) (sp : Sp) (E : XK) : R2 := fun x y H Q => ∃ a dx fs b dy gs, x = .ref a ∧ y = .ref b ∧ H a = some (.ins C dx fs) ∧ H b = some (.ins C dy gs) ∧ sp [x, y] H Q E
theorem op_cmpI {op : CmpOp} (hop : ∀ a b, compareOp op a b = richCompare op a b) (hs : PySem.W.findIn X.K (.ref C) (cmpInfo op).2.1 = some (some (.ref g))) (hf : PySem.W.isFn X.K (.ref g) = true) (F : FnR X.prog X.w X.K X.mg X.base CX n g sp)
    (hr : Room n X.A) (hx : Passes CX X E) : OpR X (compareOp op) (rCmpI C sp E) := by
  intro pins s σ H x y v u Q I rx ry h
  obtain ⟨a, dx, fs, b, dy, gs, rfl, rfl, ha, hb, q⟩ := h
  cases (show v = Value.ref a from rx)
  cases (show u = Value.ref b from ry)
  obtain ⟨od, J⟩ := ins_inst I ha
  obtain ⟨od', J'⟩ := ins_inst I hb
  obtain ⟨m, hF⟩ := I.fr
  rw [hop]
  refine PySem.W.cmp_K (op := op) (tb := .ref C) hr.units0 hF I.ok.mod.kin J J'.type (by unfold PySem.W.notFirst; simp) hs hf ?_
  refine wpAny_mono (wpAny_call (run_fnR (us := [.ref a, .ref b]) (vs := [.ref a, .ref b]) F hr hx I (.cons rfl (.cons rfl .nil)) q)) (fun w s' z => ?_) fun _ _ x => x
  obtain ⟨z', H', I', rz, qz⟩ := z
  exact cmpback rz ⟨z', H', I', rz, qz⟩
/-- v in x, x of the class at C; the answer of its def is a boolean -/
def rInI (C : Addr) (sp : Sp) (E : XK) : R2 := fun v x H Q => ∃ a dx fs, x = .ref a ∧ H a = some (.ins C dx fs) ∧ sp [x, v] H (fun z H' => ∃ b, z = .bl b ∧ Q (.bl b) H') E
theorem op_inI (hs : PySem.W.findIn X.K (.ref C) "__contains__" = some (some (.ref g))) (hf : PySem.W.isFn X.K (.ref g) = true) (F : FnR X.prog X.w X.K X.mg X.base CX n g sp)
    (hr : Room n X.A) (hx : Passes CX X E) : OpR X (compareOp .In) (rInI C sp E) := by
  intro pins s σ H x y v u Q I rx ry h
  obtain ⟨a, dx, fs, rfl, ha, q⟩ := h
  cases (show u = Value.ref a from ry)
  obtain ⟨od, J⟩ := ins_inst I ha
  obtain ⟨m, hF⟩ := I.fr
  refine PySem.W.in_K hF I.ok.mod.kin J hs hf (wpAny_mono (wpAny_call (run_fnR (us := [.ref a, v]) (vs := [.ref a, x]) F hr hx I (.cons rfl (.cons rx .nil)) q)) (fun w s' z => ?_) fun _ _ x => x)
  obtain ⟨z', H', I', rz, b, eb, qz⟩ := z
  subst eb
  cases (show w = Value.bool b from rz)
  exact wpAny_truthy_bool ⟨.bl b, H', I', rfl, qz⟩
/-- the truth of x, of the class at C with an own __bool__ -/
def rTruI (C : Addr) (sp : Sp) (E : XK) : V → Hp → (Bool → Hp → Prop) → Prop := fun x H Q => ∃ a dx fs, x = .ref a ∧ H a = some (.ins C dx fs) ∧ sp [x] H (fun z H' => ∃ b, z = .bl b ∧ Q b H') E
theorem tru_I (hs : PySem.W.findIn X.K (.ref C) "__bool__" = some (some (.ref g))) (hf : PySem.W.isFn X.K (.ref g) = true) (F : FnR X.prog X.w X.K X.mg X.base CX n g sp)
    (hr : Room n X.A) (hx : Passes CX X E) : TruR X (rTruI C sp E) := by
  intro pins s σ H x v Q I rx h
  obtain ⟨a, dx, fs, rfl, ha, q⟩ := h
  cases (show v = Value.ref a from rx)
  obtain ⟨od, J⟩ := ins_inst I ha
  obtain ⟨m, hF⟩ := I.fr
  refine PySem.W.truthy_K hF I.ok.mod.kin J hs hf (wpAny_mono (wpAny_call (run_fnR (us := [.ref a]) (vs := [.ref a]) F hr hx I (.cons rfl .nil) q)) (fun w s' z => ?_) fun _ _ x => x)
  obtain ⟨z', H', I', rz, b, eb, qz⟩ := z
  subst eb
  cases (show w = Value.bool b from rz)
  exact ⟨H', I', qz⟩
/-- len(x), x of the class at C with an own __len__ -/
def rLenI (C : Addr) (sp : Sp) (E : XK) : List V → Hp → VK → Prop := fun xs H Q => ∃ a dx fs, xs = [.ref a] ∧ H a = some (.ins C dx fs) ∧ sp xs H (fun z H' => ∃ i, z = .int i ∧ 0 ≤ i ∧ i < 2 ^ 63 ∧ Q (.int i) H') E
theorem call_lenI (hs : PySem.W.findIn X.K (.ref C) "__len__" = some (some (.ref g))) (hf : PySem.W.isFn X.K (.ref g) = true) (F : FnR X.prog X.w X.K X.mg X.base CX n g sp)
    (hr : Room (n + 1) X.A) (hx : Passes CX X E) : CallR X (.builtin "len") (rLenI C sp E) := by
  intro pins s σ H xs us Q I r h
  obtain ⟨a, dx, fs, rfl, ha, q⟩ := h
  obtain ⟨u, rfl, ru⟩ := r.one
  cases (show u = Value.ref a from ru)
  obtain ⟨od, J⟩ := ins_inst I ha
  obtain ⟨m, hF⟩ := I.fr
  refine PySem.W.len_K hF I.ok.mod.kin J hs hf (wpAny_mono (wpAny_call (run_at (us := [.ref a]) (ws := [.ref a]) F hr.in1 I.env0.in1 hx I (.cons rfl .nil) q)) (fun w s' z => ?_) fun _ _ x => x)
  obtain ⟨z', H', I', rz, i, ei, h0, h1, qz⟩ := z
  subst ei
  obtain ⟨t, e⟩ := (show ∃ t, w = Value.int i t from rz)
  cases e
  exact ⟨⟨h0, h1⟩, .int i, H', I'.tok _, ⟨_, rfl⟩, qz⟩
/-- str(x), x of the class at C with an own __str__ -/
def rStrI (C : Addr) (sp : Sp) (E : XK) : List V → Hp → VK → Prop := fun xs H Q => ∃ a dx fs, xs = [.ref a] ∧ H a = some (.ins C dx fs) ∧ sp xs H (fun z H' => ∃ t, z = .str t ∧ Q (.str t) H') E
theorem call_strI (hs : PySem.W.findIn X.K (.ref C) "__str__" = some (some (.ref g))) (hf : PySem.W.isFn X.K (.ref g) = true) (F : FnR X.prog X.w X.K X.mg X.base CX n g sp)
    (hr : Room (n + 2) X.A) (hx : Passes CX X E) : CallR X (.type "str") (rStrI C sp E) := by
  intro pins s σ H xs us Q I r h
  obtain ⟨a, dx, fs, rfl, ha, q⟩ := h
  obtain ⟨u, rfl, ru⟩ := r.one
  cases (show u = Value.ref a from ru)
  obtain ⟨od, J⟩ := ins_inst I ha
  have hr2 : Room n X.A.in1.in1 := (show Room (n + 1) X.A.in1 from Room.in1 hr).in1
  refine PySem.W.kso_call hr2.units0 I.kIn J hs hf (wpAny_mono (wpAny_call (run_at (us := [.ref a]) (ws := [.ref a]) F hr2 I.env0.in1.in1 hx I (.cons rfl .nil) q)) (fun w s' z => ?_) fun _ _ x => x)
  obtain ⟨z', H', I', rz, t, et, qz⟩ := z
  subst et
  obtain ⟨t', e⟩ := (show ∃ t', w = Value.str t t' from rz)
  cases e
  exact ⟨.str t, H', I', ⟨_, rfl⟩, qz⟩
end
end FR
set_option Elab.async false
set_option linter.all false
set_option maxRecDepth 100000
/-! x op= y of own classes without a def of their own for op= -/
namespace FR
open PySem PySem.W PySem.Calls PyProof.Rows
section
variable {prog : Program} {w : World} {M : Model} {A : Around} {E : Value → Shared → Prop} {s : Shared} {K : Frag} {x C L f : Addr} {h₀ : Heap} {m : Str → Option Value} {ox : Obj} {od : Option Obj} {nm : String} {cd : ClassData}
theorem inplace_no {h : Heap} {add : Bool} (X : K.In h) (hc : clsIn K C = some cd) (hm : cd.mro = [.ref C, .type "object"]) (h1 : findIn K (.ref C) (dunderI nm) = some none) (h2 : findIn K (.type "object") (dunderI nm) = some none) :
    Looks M h (fillsInplaceSlot (.ref C) nm add) false := by
  intro A Q E s k q
  have Lm : Looks M h (mroOf (.ref C)) cd.mro := (looks_clsIn X hc).andThen (f := fun cd => pure cd.mro) .now
  have Lm' := Lm.keeps k
  obtain ⟨hh, g, d, tk, os⟩ := s
  have X' : K.In hh := X.keeps k
  have L1 : Looks M hh (typeLookup (.ref C) (dunderI nm)) none := looks_findIn X' h1
  have L2 : Looks M hh (typeLookup (.type "object") (dunderI nm)) none := looks_findIn X' h2
  unfold fillsInplaceSlot
  refine wpAny_bind (Lm'.at ?_)
  rw [hm, List.anyM_cons]
  refine wpAny_bind ?_
  repeat lk
  exact q
theorem bin1_own {b : Value} {Q : Value → Shared → Prop} (X : K.In s.heap) (I : InstAt s.heap x ox C od) (hb : Looks M s.heap (typeOf b) (.ref C)) (hc : clsIn K C = some cd) (hm : cd.mro = [.ref C, .type "object"])
    (hs : findIn K (.ref C) (PySem.dunder nm) = some (some (.ref f))) (hf : isFn K (.ref f) = true)
    (h : wpAny M A (call (.ref f) [.ref x, b]) (PySem.W.CmpBack Q) E s) : wpAny M A (binaryOp1 nm (.ref x) b) (fun r s' => ∃ v, r = some v ∧ Q v s') E s := by
  have one := ksp_try X I hs hf h
  obtain ⟨hh, g, d, tk, os⟩ := s
  have L1 : Looks M hh (typeOf (.ref x)) (.ref C) := I.type
  have L2 : Looks M hh (typeOf b) (.ref C) := hb
  have L3 : Looks M hh (fillsNumberSlot (.ref C) nm) true := fills_K X hc hm hs
  unfold binaryOp1
  refine wpAny_bind (L1.at (wpAny_bind (L2.at (wpAny_bind (L3.at ?_)))))
  simp only [beq_self_eq_true, if_true]
  ksp_lk
  refine wpAny_mono one (fun r s' hr' => ?_) fun _ _ e => e
  obtain ⟨v, rfl, hq⟩ := hr'
  ksp_lk
  exact ⟨_, rfl, hq⟩
theorem inplace_own {op : Operator} {b : Value} {Q : Value → Shared → Prop} (X : K.In s.heap) (I : InstAt s.heap x ox C od) (hb : Looks M s.heap (typeOf b) (.ref C)) (hc : clsIn K C = some cd) (hm : cd.mro = [.ref C, .type "object"])
    (h1 : findIn K (.ref C) (dunderI op.info.2) = some none) (h2 : findIn K (.type "object") (dunderI op.info.2) = some none)
    (hs : findIn K (.ref C) (PySem.dunder op.info.2) = some (some (.ref f))) (hf : isFn K (.ref f) = true)
    (h : wpAny M A (call (.ref f) [.ref x, b]) (PySem.W.CmpBack Q) E s) : wpAny M A (inplaceOp op (.ref x) b) Q E s := by
  have one := bin1_own X I hb hc hm hs hf h
  obtain ⟨hh, g, d, tk, os⟩ := s
  have L1 : Looks M hh (typeOf (.ref x)) (.ref C) := I.type
  have L2 : Looks M hh (fillsInplaceSlot (.ref C) op.info.2 (op == .Add)) false := inplace_no X hc hm h1 h2
  unfold inplaceOp
  refine wpAny_holding ?_
  refine wpAny_bind (L1.at (wpAny_bind (L2.at ?_)))
  simp only [Bool.false_eq_true, if_false]
  refine wpAny_bind (wpAny_mono one (fun r s' hr' => ?_) fun _ _ e => e)
  obtain ⟨v, rfl, hq⟩ := hr'
  exact wpAny_pure hq
theorem ifBound_slot {name : Str} {id : String} {args : List Value} {Q : Option Value → Shared → Prop} (X : K.In s.heap) (I : InstAt s.heap x ox C od) (hs : findIn K (.ref C) name = some (some (.builtin id)))
    (hb : ∀ self, bindSpecial (.builtin id) self = pure (.builtin id, [self])) (h : wpAny M A (call (.builtin id) (.ref x :: args)) (fun v => Q (some v)) E s) : wpAny M A (callSpecialIfBound? (.ref x) name args) Q E s := by
  simp only [callSpecialIfBound?, bindSpecialIfBound?]
  refine wpAny_holding (wpAny_bind (wpAny_bind (wpAny_bind (I.type.here ((looks_findIn X hs).here ?_)))))
  simp only [hb]
  refine wpAny_bind (wpAny_askSetting (wpAny_ite ?_))
  have fin : wpAny M A (call (.builtin id) ([.ref x] ++ args) >>= fun v => pure (some v)) Q E s := wpAny_bind (wpAny_mono h (fun v s' h' => wpAny_pure h') fun _ _ h' => h')
  split
  · exact wpAny_bind (wpAny_pure (wpAny_pure (by exact fin)))
  · exact wpAny_tryCatch (wpAny_bind (wpAny_pure (wpAny_pure (by exact fin))))
open Builtin in
/-- object's «not equal» where the class has its own «equal», which answers a boolean -/
theorem objNe_own {b : Value} {Q : Value → Shared → Prop} (hu : A.in1.units < cLine) (X : K.In s.heap) (I : InstAt s.heap x ox C od) (hm : mroIn K C (.type "object") = some true) (hs : findIn K (.ref C) "__eq__" = some (some (.ref f))) (hf : isFn K (.ref f) = true)
    (h : wpAny (model prog w) A.in1 (call (.ref f) [.ref x, b]) (fun r s' => ∃ v, r = .bool v ∧ Q (.bool (!v)) s') E s) : wpAny (model prog w) A (call (.builtin "object.__ne__") [.ref x, b]) Q E s := by
  refine wpAny_call (codeAny_call_builtin PySem.F.cmp_object.ne.plain PySem.F.cmpEntry_ne (check_slot (i := "object.__ne__") (owner := "object") (n := "__ne__") (by decide +kernel) (by decide +kernel) (I.type.andThen (looks_mroIn X hm)) (PySem.F.cmpArgs_ne _ _) ?_))
  unfold Builtin.«object.__ne__»
  refine wpAny_bind (m := slotArgs "__ne__" 1 _) (wpAny_pure ?_)
  refine wpAny_bind (m := cRoomFor _ _) (wpAny_cRoomFor hu ?_)
  refine wpAny_bind (m := callSpecialIfBound? (.ref x) (Str.ofString "__eq__") _) (ifBound_K X I hs hf (wpAny_mono h (fun r s' hq => ?_) fun _ _ y => y))
  obtain ⟨v, rfl, q⟩ := hq
  refine wpAny_bind (wpAny_truthy_bool ?_)
  exact wpAny_pure q
/-- x != b where the class of x has an own «equal» alone -/
theorem rc_ne_own {b tb : Value} {Q : Value → Shared → Prop} (hu : A.units < cLine) (hu1 : A.in1.units < cLine) (X : K.In s.heap) (I : InstAt s.heap x ox C od) (hb : Looks (model prog w) s.heap (typeOf b) tb) (hn : notFirst K C tb = true)
    (hm : mroIn K C (.type "object") = some true) (hne : findIn K (.ref C) "__ne__" = some (some (.builtin "object.__ne__"))) (hs : findIn K (.ref C) "__eq__" = some (some (.ref f))) (hf : isFn K (.ref f) = true)
    (h : wpAny (model prog w) A.in1 (call (.ref f) [.ref x, b]) (fun r s' => ∃ v, r = .bool v ∧ Q (.bool (!v)) s') E s) : wpAny (model prog w) A (richCompare .NotEq (.ref x) b) Q E s := by
  have one : wpAny (model prog w) A (tryCompare (.ref x) (cmpInfo .NotEq).2.1 b) (fun r s' => ∃ v, r = some v ∧ Q v s') E s := by
    unfold tryCompare
    refine wpAny_bind (ifBound_slot X I hne PySem.F.cmp_object.ne.bind (objNe_own hu1 X I hm hs hf (wpAny_mono h (fun v s' hv => ?_) fun _ _ e => e)))
    obtain ⟨v, rfl, q⟩ := hv
    exact ⟨v, rfl, wpAny_pure ⟨_, rfl, q⟩⟩
  unfold richCompare
  simp only [oneThing_ref]
  refine wpAny_holding (wpAny_bind (wpAny_cRoomFor hu ?_))
  refine wpAny_bind (I.type.here (wpAny_bind (hb.here ?_)))
  split
  · rename_i q
    have e : subIn K tb (.ref C) = some false := by
      rcases Bool.or_eq_true_iff.mp hn with e | e
      · rw [beq_iff_eq.mp e] at q; simp at q
      · exact beq_iff_eq.mp e
    refine wpAny_bind ((looks_subIn X e).here ?_)
    simp only [Bool.false_eq_true, if_false]
    refine wpAny_bind (wpAny_mono one (fun r s' z => ?_) fun _ _ e => e)
    obtain ⟨v, rfl, hq⟩ := z
    exact wpAny_pure hq
  · refine wpAny_bind (wpAny_pure ?_)
    simp only [Bool.false_eq_true, if_false]
    refine wpAny_bind (wpAny_mono one (fun r s' z => ?_) fun _ _ e => e)
    obtain ⟨v, rfl, hq⟩ := z
    exact wpAny_pure hq
end
section
open L2
open SlX (cmpback run_at)
variable {X : Cx} {C g : Addr} {n : Nat} {sp : Sp} {E : XK} {CX : CXT}
theorem op_ibinI {op : Operator} {cd : ClassData} (hc : clsIn X.K C = some cd) (hm : cd.mro = [.ref C, .type "object"]) (h1 : findIn X.K (.ref C) (dunderI op.info.2) = some none) (h2 : findIn X.K (.type "object") (dunderI op.info.2) = some none)
    (hs : findIn X.K (.ref C) (PySem.dunder op.info.2) = some (some (.ref g))) (hf : isFn X.K (.ref g) = true) (F : FnR X.prog X.w X.K X.mg X.base CX n g sp) (hr : Room n X.A) (hx : Passes CX X E) : InOp X op (rBinI C sp E) := by
  intro pins s σ H x y v u Q I rx ry h
  obtain ⟨a, dx, fs, b, dy, gs, rfl, rfl, ha, hb, q⟩ := h
  cases (show v = Value.ref a from rx)
  cases (show u = Value.ref b from ry)
  obtain ⟨od, J⟩ := ins_inst I ha
  obtain ⟨od', J'⟩ := ins_inst I hb
  refine inplace_own I.kIn J J'.type hc hm h1 h2 hs hf ?_
  refine wpAny_mono (wpAny_call (run_fnR (us := [.ref a, .ref b]) (vs := [.ref a, .ref b]) F hr hx I (.cons rfl (.cons rfl .nil)) q)) (fun w s' z => ?_) fun _ _ x => x
  obtain ⟨z', H', I', rz, qz⟩ := z
  exact cmpback rz ⟨z', H', I', rz, qz⟩
/-- x != y, both of the class at C with an own «equal» alone -/
def rNeI (C : Addr) (sp : Sp) (E : XK) : R2 := fun x y H Q => ∃ a dx fs b dy gs, x = .ref a ∧ y = .ref b ∧ H a = some (.ins C dx fs) ∧ H b = some (.ins C dy gs) ∧ sp [x, y] H (fun z H' => ∃ v, z = .bl v ∧ Q (.bl (!v)) H') E
theorem op_neI (hm : mroIn X.K C (.type "object") = some true) (hne : findIn X.K (.ref C) "__ne__" = some (some (.builtin "object.__ne__"))) (hs : findIn X.K (.ref C) "__eq__" = some (some (.ref g))) (hf : isFn X.K (.ref g) = true)
    (F : FnR X.prog X.w X.K X.mg X.base CX n g sp) (hr : Room (n + 1) X.A) (hx : Passes CX X E) : OpR X (compareOp .NotEq) (rNeI C sp E) := by
  intro pins s σ H x y v u Q I rx ry h
  obtain ⟨a, dx, fs, b, dy, gs, rfl, rfl, ha, hb, q⟩ := h
  cases (show v = Value.ref a from rx)
  cases (show u = Value.ref b from ry)
  obtain ⟨od, J⟩ := ins_inst I ha
  obtain ⟨od', J'⟩ := ins_inst I hb
  refine rc_ne_own (tb := .ref C) hr.units0 hr.in1.units0 I.kIn J J'.type (by unfold notFirst; simp) hm hne hs hf ?_
  refine wpAny_mono (wpAny_call (run_at (us := [.ref a, .ref b]) (ws := [.ref a, .ref b]) F hr.in1 I.env0.in1 hx I (.cons rfl (.cons rfl .nil)) q)) (fun w s' z => ?_) fun _ _ x => x
  obtain ⟨z', H', I', rz, b', eb, qz⟩ := z
  subst eb
  cases (show w = Value.bool b' from rz)
  exact ⟨b', rfl, .bl (!b'), H', I', rfl, qz⟩
end
end FR
set_option Elab.async false
set_option linter.all false
set_option maxRecDepth 100000
/-! the keys of a dict of the module, walked -/
namespace FR
open PySem PySem.Spec PyProof.Rows L2 TL
/-- at d: a dict of the module whose keys are the texts ks -/
structure WDict (K : PySem.W.Frag) (d : Addr) (ks : List Str) : Prop where
  ex : ∃ (o : Obj) (es : Array DictEntry) (ep : Nat), K.lookup d = some o ∧ o.ExactDict ∧ o.data = .dict es ep ∧ es.size = ks.length ∧ ∀ (i : Nat) (k : Str), ks[i]? = some k → ∃ (en : DictEntry) (t : Tok), es[i]? = some en ∧ en.key = Value.str k t
  low : (d == sysModules) = false
/-- its keys, in their order -/
def ItW (ks : List Str) : It := ⟨fun i H => i < ks.length, fun i H x H' => H' = H ∧ ∃ k, ks[i]? = some k ∧ x = .str k, fun i H => ks.length ≤ i⟩
section
variable {P : Program} {w : World} {K : PySem.W.Frag} {tg : Expr} {d : Addr} {o : Obj} {es : Array DictEntry} {ep : Nat} {ks : List Str}
theorem turn_keysW (it : Addr) (hl : K.lookup d = some o) (hod : o.data = .dict es ep) (hsz : es.size = ks.length) (ent : ∀ (i : Nat) (k : Str), ks[i]? = some k → ∃ (en : DictEntry) (t : Tok), es[i]? = some en ∧ en.key = Value.str k t) :
    Turn P w K tg (ItW ks) [it] it (fun i h => h.IsKeyIter it d i ks.length ep) where
  mem := by simp
  obj := fun i h st b hb => by
    have e : b = it := by simpa using hb
    subst e
    obtain ⟨oi, e, c, dd⟩ := st
    exact ⟨oi, e, fun v z => by rw [dd] at z; cases z⟩
  keep := fun i h h' st k => st.at fun oi e => k it (by simp) oi e
  item := by
    intro X hP hw hK hc i pins s σ H E I hf st hi
    subst hP hw hK
    obtain ⟨f0, f1, f2, f3, f4, f5⟩ := hf it (by simp)
    obtain ⟨k, hk⟩ : ∃ k, ks[i]? = some k := ⟨ks[i]'hi, List.getElem?_eq_getElem hi⟩
    obtain ⟨en, t, hen, hkey⟩ := ent i k hk
    refine next_key_item st (I.kIn _ _ hl) hod hsz hen fun h' st' sb => ?_
    have I1 : Inv X pins σ H { s with heap := h' } := I.turned (t' := s.toks) (fun b ob hb e => (sb.2 b hb).trans e) f0 f1 f3 f4 f5
    obtain ⟨oi, e, c, dd⟩ := id st'
    exact ⟨en.key, rfl, go_of (s := { s with heap := h' }) e c dd (by decide) ⟨.str k, H, I1, by rw [hkey]; exact ⟨t, rfl⟩, ⟨rfl, k, hk, rfl⟩, st', fun b hb => (hf b hb).1⟩⟩
  done := by
    intro X hP hw hK hc i pins s σ H E I hf st hi
    subst hP hw hK
    obtain ⟨f0, f1, f2, f3, f4, f5⟩ := hf it (by simp)
    exact next_key_end (I.ok.hd hc) st (I.kIn _ _ hl) hod hsz hi fun h' eb => ⟨rfl, I.turned (t' := s.toks) (fun b ob hb e => eb b ob hb e) f0 f1 f3 f4 f5⟩
  self := fun A i s Q E st h => wpAny_pyIter_keyiter st h
end
/-- a walk over e, which is that dict -/
def iKeysW (td : TE) (d : Addr) (ks : List Str) : TI := fun σ H R => td σ H fun x H1 => x = .ref d ∧ R (ItW ks) H1
theorem pi_keysW {X : Cx} {tg e : Expr} {td : TE} {d : Addr} {ks : List Str} (D : WDict X.K d ks) (he : PE X e td) : PI X tg e (iKeysW td d ks) := by
  refine ⟨fun pins s σ H R I h => ?_⟩
  refine thn (he.run pins s σ H _ I h) fun u s1 ⟨x, H1, I1, rx, ex, q⟩ => ?_
  subst ex
  obtain rfl : u = Value.ref d := rx
  obtain ⟨o, es, ep, hl, hx, hdt, hsz, ent⟩ := D.ex
  refine iter_keys D.low (I1.kIn _ _ hl) hx hdt (pi_one (tk := s1.toks) I1 _ (turn_keysW _ hl hdt hsz ent) ⟨_, Heap.get?_push_size _ rfl, rfl, ?_⟩ q)
  rw [hsz] <;> rfl
theorem walk_keysW {ks : List Str} : Walk (ItW ks) ks.length (fun _ => True) (fun i H x H' => H' = H ∧ ∃ k, ks[i]? = some k ∧ x = .str k) :=
  ⟨fun _ _ hi _ => hi, fun _ _ => Nat.le_refl _, fun _ _ _ _ _ _ y => y⟩
end FR
set_option Elab.async false
set_option linter.all false
set_option maxRecDepth 100000
set_option maxHeartbeats 4000000
/-! set(x) of a text of unlike signs of seven bits; its len -/
namespace FR
open PySem PySem.Spec PyProof.Rows PySem.Froz
section
variable {P : Program} {w : World} {A : Around} {E : Value → Shared → Prop} {s : Shared}
theorem run_ok : ∀ (cs : List Nat) (tk : Tok) (D : SD) (l : List Str), TxOk P w D l → ∃ l', TxOk P w (runD w cs tk D) l' ∧ l'.length = l.length + cs.length
  | [], _, _, l, F => ⟨l, F, rfl⟩
  | c :: r, tk, D, l, F => by
    obtain ⟨l', F', e⟩ := run_ok r (tk + 2) _ (sing c :: l) (add_ok (k := sing c) tk F)
    exact ⟨l', F', by rw [e]; show l.length + 1 + r.length = l.length + (r.length + 1); omega⟩
theorem call_set_txt {x : Str} {u : Tok} {Q : Value → Shared → Prop} (hh : A.handled = none) (ha : x.cps.all (· < 128) = true) (hd : x.cps.toList.Nodup) (hb : x.cps.toList.length < scanBound)
    (h : ∀ (h' : Heap) (tk : Nat) (D : SD) (l : List Str), h'.get? s.heap.objs.size = some (sObj "set" D) → TxOk P w D l → l.length = x.cps.toList.length → (∀ b o, b < s.heap.objs.size → s.heap.get? b = some o → h'.get? b = some o) →
      Q (.ref s.heap.objs.size) { s with heap := h', toks := tk }) :
    wpAny (model P w) A (call (.type "set") [.str x u]) Q E s := by
  obtain ⟨c, tl, hmro⟩ := PySem.F.called_set.mro
  have hmade := PySem.F.called_set.made
  have hsub := PySem.F.called_set.sub
  refine wpAny_call (codeAny_of_tree ?_)
  show wpAny _ _ (callAny (.type "set") _) _ _ _
  refine wpAny_pure ⟨Code.quiet_builtin _ (by decide +kernel), codeAny_builtin PySem.F.entry_type_call ?_⟩
  rw [Around.under_plain (weight_type_call_type "set" [.str x u] []) rfl]
  have h1 := PySem.F.called_set.notType
  have h2 := PySem.F.called_set.canCreate
  have hct := PySem.F.typeCall_set_1 (.str x u)
  repeat (any_goals (first | assumption | wp_step))
  let S0 : Bool → Obj := fun led => { cls := .type "set", dict := none, data := .set #[] 0 (.fresh 0 0 led) }
  refine codeAny_mono (code_set_new_1 (.str x u) (E := E) (Q₁ := fun obj s1 => ∃ led : Bool, obj = .ref s.heap.objs.size ∧ s1 = { s with heap := s.heap.push (S0 led) }) fun led => ⟨led, rfl, rfl⟩) fun r s1 hr => ?_
  match r, hr with
  | .error e, hr => exact hr
  | .ok (.ret obj), hr =>
    obtain ⟨led, rfl, rfl⟩ := hr
    have hS : (s.heap.push (S0 led)).get? s.heap.objs.size = some (S0 led) := Heap.get?_push_size _ rfl
    have hT : Shared.TypeIs { s with heap := s.heap.push (S0 led) } (.ref s.heap.objs.size) "set" := ⟨_, hS, rfl⟩
    have hli := PySem.F.called_set.init.lookup
    have hbi := PySem.F.called_set.init.bind (.ref s.heap.objs.size)
    repeat (any_goals (first | assumption | wp_step))
    refine codeAny_mono (codeAny_call_builtin (R := wants (fun r s2 => r = .none ∧ ∃ (h' : Heap) (tk : Nat) (D : SD) (l : List Str), s2 = { s with heap := h', toks := tk } ∧ h'.get? s.heap.objs.size = some (sObj "set" D) ∧ TxOk P w D l ∧ l.length = x.cps.toList.length ∧
      (∀ b o, b < s.heap.objs.size → s.heap.get? b = some o → h'.get? b = some o)) E) PySem.F.called_set.init.plain PySem.F.entry_set_init (check_set_init_1 hT ?_)) fun r2 s2 hr2 => ?_
    · have hs1 := PySem.F.sub_str_set
      have hs2 := PySem.F.sub_str_frozenset
      have hne : (Value.type "str" == Value.type "dict") = false := by decide
      unfold Builtin.«set.__init__» noKeywords Builtin.Frozenset.updateFrom
      generalize hPI : pyIter = PI
      wp_walk
      subst hPI
      refine wpAny_pyIter_ascii ha ?_
      refine wpAny_bind (wpAny_runValue ?_)
      have hsz : (s.heap.push (S0 led)).objs.size = s.heap.objs.size + 1 := Heap.size_push ..
      have hne2 : s.heap.objs.size ≠ (s.heap.push (S0 led)).objs.size := by omega
      have F0 : TxOk P w (#[], 0, .fresh 0 0 led) [] := TxOk.nil (by rfl)
      obtain ⟨l, Fl, el⟩ := run_ok x.cps.toList s.toks (#[], 0, .fresh 0 0 led) [] F0
      refine code_update (T := "set") (x := x) (u := u) (P := P) (w := w) hne2 (by simp [hh]) x.cps.toList 0 (#[], 0, .fresh 0 0 led) [] _ rfl (Heap.get?_push_of_some _ hS) (Heap.get?_push_size _ rfl) F0 (by simp) hd (by simpa using hb) ?_
      show wpAny _ _ (pure ()) _ _ _
      refine wpAny_pure ?_
      show wpAny _ _ (ret Value.none) _ _ _
      have hS2 : ∀ o : Obj, ((s.heap.push (S0 led)).push o).get? s.heap.objs.size = some (S0 led) := fun o => Heap.get?_push_of_some _ hS
      refine wpAny_pure ⟨rfl, _, _, _, l, rfl, ?_, Fl, by rw [el]; exact Nat.zero_add _, fun b o hb2 e => ?_⟩
      · exact Heap.get?_push_of_some _ (Heap.get?_push_of_some _ (Heap.get?_update_of_ne _ (Ne.symm hne2) (get_upd _ (hS2 _) rfl)))
      · have n1 : b ≠ s.heap.objs.size := Nat.ne_of_lt hb2
        have n2 : b ≠ (s.heap.push (S0 led)).objs.size := by omega
        exact Heap.get?_push_of_some _ (Heap.get?_push_of_some _ (Heap.get?_update_of_ne _ (Ne.symm n2) (Heap.get?_update_of_ne _ (Ne.symm n1) (Heap.get?_push_of_some _ (Heap.get?_push_of_some _ e)))))
    · match r2, hr2 with
      | .error e, hr2 => exact hr2
      | .ok (.ret r), hr2 =>
        obtain ⟨rfl, h', tk, D, l, rfl, g1, g2, g3, g4⟩ := hr2
        repeat (any_goals (first | assumption | wp_step))
        exact h _ _ _ _ g1 g2 g3 g4
      | .ok .next, hr2 => exact hr2.elim
      | .ok .brk, hr2 => exact hr2.elim
      | .ok .cont, hr2 => exact hr2.elim
  | .ok .next, hr => exact hr.elim
  | .ok .brk, hr => exact hr.elim
  | .ok .cont, hr => exact hr.elim
end
section
open L2
def tLenSetT (ta : TE) : TE := fun σ H Q => ta σ H fun x H1 => ∃ t : Str, x = .str t ∧ t.cps.all (· < 128) = true ∧ t.cps.toList.Nodup ∧ t.cps.toList.length ≤ 4000 ∧ Q (.int (t.length : Nat)) H1
/-- len(set(e)), e a text of unlike signs -/
theorem pe_lenSetT {X : Cx} {a : Expr} {ta : TE} {p p2 q pos : Pos} (hg : Gl X "len") (hm : X.mg "len" = none) (hg2 : Gl X "set") (hm2 : X.mg "set" = none) (ha : PE X a ta) (hc : X.calm = true := by rfl)
    (na : starEach [a] X.env = (false, eval a X.env) :: starEach [] X.env := by rfl) : PE X (.Call (.Name "len" p) [.Call (.Name "set" p2) [a] [] q] [] pos) (tLenSetT ta) := by
  refine ⟨fun pins s σ H Q I h => ?_⟩
  refine Call_ (ld_blt I hg hm boot_len ?_)
  refine PyProof.Rows.callWith_builtin1 (PyProof.Rows.args_cons ?_ rfl) rfl rfl
  refine Call_ (ld_blt I hg2 hm2 (show bootBuiltins ("set" : Str) = some (.type "set") by decide +kernel) ?_)
  refine PyProof.Rows.callWith_type1 (PyProof.Rows.args_cons (thn (ha.run pins s σ H _ I h) fun v s1 ⟨x, H1, I1, r1, q1⟩ => PyProof.Rows.args_nil ?_) na) na rfl
  obtain ⟨t, rfl, h1, h2, h3, q1⟩ := q1
  obtain ⟨tk0, rfl⟩ := r1
  refine call_set_txt (I1.ok.hd hc) h1 h2 (by unfold scanBound; omega) fun h' tk D l g1 F el hk => ?_
  refine PyProof.Rows.args_nil ?_
  have I2 : Inv X pins σ H1 { s1 with heap := h', toks := tk } := I1.kept fun b o e => hk b o (Heap.lt_size e) e
  have hn : D.1.size = t.length := by rw [F.sz, el]; rfl
  exact call_len_set (es := D.1) (ep := D.2.1) (t := D.2.2) g1 ⟨rfl, rfl, rfl⟩ rfl F.fit (by rw [hn]; show ((t.cps.size : Nat) : Int) < _; rw [← Array.length_toList]; omega) ⟨.int t.length, H1, I2.tok _, ⟨_, by rw [hn]⟩, q1⟩
end
end FR
set_option Elab.async false
set_option linter.all false
set_option maxRecDepth 100000
/-! whole numbers as tests; dicts of the module inside a comprehension -/
namespace FR
open PySem PySem.Spec PyProof.Rows L2
def tTruI (ta : TE) : TT := fun σ H Q => ta σ H fun x H' => ∃ i, x = .int i ∧ Q (i != 0) H'
theorem pt_truthI {X : Cx} {a : Expr} {ta : TE} (ha : PE X a ta) (he : ∀ whole, isTrue a X.env whole = (do let v ← whole; standAt a.pos; holding [v] (truthy v))) : PT X a (tTruI ta) := by
  refine ⟨fun pins s σ H Q I h => ?_⟩
  exact isTrue_plain (thn (ha.run pins s σ H _ I h) fun v s1 ⟨x, H1, I1, r1, i, ex, q1⟩ => tru_ok pins s1 σ H1 x v Q I1 r1 ⟨i != 0, by subst ex; rfl, q1⟩) (he _)
theorem ix_kdictK {X : Cx} {K : PySem.W.Frag} {w : World} (hk : X.K = K) (hw : X.w = w) : IxR X (rIxD K w) := by
  subst hk hw
  exact ix_kdict
def rInW (K : PySem.W.Frag) (d : Addr) : R2 := fun x y H Q => ∃ (z : Str) (r : Option Value), x = .str z ∧ y = .ref d ∧ PySem.W.nsIn K d z = some r ∧ Q (.bl r.isSome) H
theorem op_inW {X : Cx} {K : PySem.W.Frag} {w : World} {d : Addr} (hk : X.K = K) (hw : X.w = w) (D : ∃ es n, KDict K w d es n) : OpR X (compareOp .In) (rInW K d) := by
  subst hk hw
  obtain ⟨es, n, D⟩ := D
  exact op_in_kd D
end FR
set_option Elab.async false
set_option linter.all false
set_option maxRecDepth 100000
/-! a comprehension over the keys of a dict of the module -/
namespace FR
open PySem PySem.Spec PyProof.Rows L2
theorem lc_kw {g : TG} {tt : TT} {te : TE} {vs : List Nat} {σ : L2.St} {H1 : Hp} {D : Addr} {Qd : Hp → Prop} {ks : List Str} (Pv : List Str → Hp → Prop) (h0 : Pv [] (upd H1 D (.lst [])))
    (hs : ∀ pre k post H, ks = pre ++ k :: post → Pv pre H → g (.str k) (wipe σ vs) H fun σ2 H2 => wipe σ2 vs = wipe σ vs ∧ tt σ2 H2 fun b H3 =>
      if b = true then te σ2 H3 fun y H4 => ∃ acc, H4 D = some (.lst acc) ∧ acc.length < sizeLine ∧ Pv (pre ++ [k]) (upd H4 D (.lst (acc ++ [y]))) else Pv (pre ++ [k]) H3) (hd : ∀ H, Pv ks H → Qd H) :
    ∃ W : Nat → Nat → Hp → Prop, (∃ m, W 0 m (upd H1 D (.lst []))) ∧ ∀ i m H, W i m H →
      ((ItW ks).stop i H ∧ Qd H) ∨ ((ItW ks).go i H ∧ ∃ Nx : Hp → Prop, (∀ H', Nx H' → ∃ m', m' < m ∧ W (i + 1) m' H') ∧ ∀ x H', (ItW ks).yld i H x H' → g x (wipe σ vs) H' fun σ2 H2 => wipe σ2 vs = wipe σ vs ∧ tt σ2 H2 fun b H3 =>
        if b = true then te σ2 H3 fun y H4 => ∃ acc, H4 D = some (.lst acc) ∧ acc.length < sizeLine ∧ Nx (upd H4 D (.lst (acc ++ [y]))) else Nx H3) := by
  refine lc_it walk_keysW (fun i H => Pv (ks.take i) H) (by simpa using h0) (fun _ _ _ _ => True.intro) ?_ (fun H p => hd H (by rw [List.take_length] at p; exact p))
  rintro i x H H' hi p ⟨rfl, k, hk, rfl⟩
  have e : ks = ks.take i ++ k :: ks.drop (i + 1) := by
    have h2 : ks[i] = k := by rw [List.getElem?_eq_getElem hi] at hk; exact Option.some.inj hk
    rw [← h2, ← List.drop_eq_getElem_cons hi, List.take_append_drop]
  have e2 : ks.take (i + 1) = ks.take i ++ [k] := by rw [List.take_add_one, hk]; rfl
  rw [e2]
  exact hs _ k _ _ e p
end FR
set_option Elab.async false
set_option linter.all false
set_option maxRecDepth 100000
/-! list(x) of a text -/
namespace FR
open PySem PySem.Spec PyProof.Rows L2 TL
def rListT : List V → Hp → VK → Prop := fun xs H Q => ∃ x : Str, xs = [.str x] ∧ x.cps.size ≤ sizeLine ∧ NewS (.lst ((tl x).map fun c => .str ⟨#[c]⟩)) Q H
theorem call_listT {X : Cx} (hc : X.calm = true) : CallR X (.type "list") rListT := by
  intro pins s σ H xs us Q I r h
  obtain ⟨x, rfl, hz, q⟩ := h
  obtain ⟨u, rfl, t, rfl⟩ : ∃ u, us = [u] ∧ ∃ t, u = Value.str x t := by
    cases r with
    | cons a b => cases b; exact ⟨_, rfl, a⟩
  refine call_list_str (hn := hz) (I.ok.hd hc) x t fun h' tk acc' c' hkeep hS hacc => ?_
  refine ⟨.ref s.heap.objs.size, upd H s.heap.objs.size (.lst ((tl x).map fun c => .str ⟨#[c]⟩)), I.laid hkeep (Nat.le_refl _) (show ObjOk X.prog X.w _ _ _ (.lst ((tl x).map fun c => .str ⟨#[c]⟩)) from ⟨?_, acc'.toList, c', ?_, ?_⟩), rfl,
    q.to _ _ (I.hok.fresh (Nat.le_refl _)) I.big (keep_new (I.hok.fresh (Nat.le_refl _))) upd_same⟩
  · rw [List.length_map]
    simpa using hz
  · have el : acc'.toList.length = acc'.size := by simp
    refine vals_of_at (by rw [List.length_map, el, hacc.1]; simp) fun j y v h1 h2 => ?_
    obtain ⟨c, tk2, hj, rfl⟩ := hacc.2 j v (by rw [← Array.getElem?_toList]; exact h2)
    rw [List.getElem?_map, show (tl x)[j]? = some c by simpa using hj] at h1
    cases h1
    exact ⟨tk2, rfl⟩
  · rw [Array.toArray_toList]; exact hS
end FR
set_option Elab.async false
set_option linter.all false
set_option maxRecDepth 100000
/-! x = e.replace(old, new) in a def: it wants that something has been made before, as it has where a def runs -/
namespace FR
open PySem PySem.Spec PyProof.Rows L2 TL
theorem okT {P : Program} {w : World} {K : PySem.W.Frag} {mg : Str → Option Value} {base : Heap} {x qual : Str} {st : Stmt} {f : Addr} {fd : FuncData} {N ps : List Str} {k : Nat} {sp : Sp}
    (F : Fun K x qual st f fd) (S : FnScope N ps (defScope st)) (nc : ∀ y ∈ (defScope st).names, y.2 ≠ NameKind.cell) (hp : 1 ≤ ps.length) (len : ∀ vs H Q E, sp vs H Q E → vs.length = ps.length)
    (body : ∀ (cdv : Value) (A : Around) (outer : List Env) (s : Shared) (H : Hp) (vs : List V) (Q : VK) (E : XK), Room k (A.deeper (envOfC qual (defScope st) s.heap.objs.size f cdv)) → sp vs H Q E →
      ∃ t, PSsT (cxOf CX0 P w K mg base N qual (defScope st) f cdv A outer s H E) (defBody st) t ∧ t { nx := fun _ H' => Q .non H', rt := Q } (start N vs) H) :
    FnOk P w K mg base CX0 (k + 1) f fd ps sp := by
  obtain ⟨oc, od, kV, doc, pm, an, cdv, ct, osl, rfl, hl, hc⟩ := F.ex
  exact fn_ofT hl hc S nc hp len fun A outer s H vs Q E hr h => body cdv A outer s H vs Q E hr h
theorem pst_asg {X : Cx} {pos : Pos} {tg e : Expr} {te : TE} {g : TG} (he : PET X e te) (hg : PG X tg g) (h1 : swapsWithSole [tg] e pos.line X.env = pure false := by rfl)
    (h2 : swappedStores [tg] e X.env = pure none := by rfl) (h3 : (assignEach [tg] X.env).map (fun x => x.2) = [assign tg X.env] := by rfl) : PST X (.Assign [tg] e pos) (tAsg te g) := by
  intro pins s σ H D ht I h
  refine wpAny_Assign_stores (wpAny_mono (he pins s σ H _ ht I h) (fun v s1 z => ?_) fun _ _ z => z) h1 h2
  obtain ⟨x, H1, I1, r1, q⟩ := z
  rw [h3]
  unfold assignAll
  exact wpAny_mono (hg.run pins s1 σ H1 x v _ I1 r1 q) (fun u s2 z => z) fun _ _ z => z
/-- without its slashes -/
def noSl (s : Str) : Str := Txt.replace s "/" ""
theorem repl_filter (c : Nat) : ∀ l : List Nat, PySem.StrLaws.replL [c] [] l = l.filter (fun d => d != c)
  | [] => PySem.StrLaws.replL_nil
  | d :: r => by
    by_cases e : d = c
    · subst e
      rw [PySem.StrLaws.replL_hit (by simp) (by simp)]
      simpa using repl_filter d r
    · rw [PySem.StrLaws.replL_miss (by simp [e]), repl_filter c r]
      simp [e]
theorem tl_noSl (s : Str) : tl (noSl s) = (tl s).filter (fun d => d != 47) := by
  refine (PySem.StrLaws.replace_list (x := s) (y := "/") (z := "") (by decide +kernel)).trans ?_
  exact repl_filter 47 _
theorem noSl_asc {s : Str} (a : Asc s) : Asc (noSl s) := fun c hc => a c (by rw [tl_noSl] at hc; exact (List.mem_filter.mp hc).1)
end FR
set_option Elab.async false
set_option linter.all false
set_option maxRecDepth 100000
/-! the parts of a path, and what is left of it without its slashes -/
namespace FR
open PySem PySem.Spec PyProof.Rows L2 TL
theorem spl_all (c : Nat) : ∀ (l acc : List Nat), (spl [c] 0 acc l).flatten = acc ++ l.filter (fun d => d != c)
  | [], acc => by rw [spl_nil]; simp
  | x :: r, acc => by
    by_cases e : pre [c] (x :: r) = true
    · rw [spl_hit e]
      have : x = c := by rw [pre_one] at e; simpa using e
      subst this
      have := spl_all x r []
      simp only [List.flatten_cons]
      show acc ++ (spl [x] 0 [] r).flatten = _
      rw [this]
      simp
    · rw [spl_miss (by simpa using e), spl_all c r (acc ++ [x])]
      have : x ≠ c := by rw [pre_one] at e; simpa using e
      simp [this]
theorem path_parts {s : Str} (h : Txt.startswith s ⟨#[47]⟩ = true) : (((Txt.split s ⟨#[47]⟩).drop 1).map tl).flatten = tl (noSl s) ∧ (Txt.split s ⟨#[47]⟩).drop 1 ≠ [] := by
  rw [starts_one] at h
  have e1 : ((Txt.split s ⟨#[47]⟩).drop 1).map tl = (spl [47] 0 [] (tl s)).drop 1 := by rw [List.map_drop, split_tl _ (by decide)]
  cases e : tl s with
  | nil => rw [e] at h; cases h
  | cons c r =>
    rw [e] at h
    have : c = 47 := by simpa using h
    subst this
    have e2 : (spl [47] 0 [] (47 :: r)).drop 1 = spl [47] 0 [] r := by
      rw [spl_hit (by rw [pre_one]; rfl)]
      rfl
    rw [e, e2] at e1
    constructor
    · rw [e1, spl_all, tl_noSl, e]
      simp
    · intro h0
      rw [h0] at e1
      have : ∀ (l acc : List Nat), spl [47] 0 acc l ≠ [] := by
        intro l
        induction l with
        | nil => intro acc; rw [spl_nil]; simp
        | cons x r ih =>
          intro acc
          by_cases e : pre [47] (x :: r) = true
          · rw [spl_hit e]; simp
          · rw [spl_miss (by simpa using e)]; exact ih _
      exact this r [] e1.symm
theorem path_split {s : Str} (h : Txt.startswith s ⟨#[47]⟩ = true) (p : Nat → Bool) :
    ((Txt.split s ⟨#[47]⟩).drop 1).all (fun u => decide (u ≠ Str.ofString "" ∧ u.length ≤ 8) && (tl u).all p) =
      ((decide (noSl s ≠ Str.ofString "") && (tl (noSl s)).all p) && ((Txt.split s ⟨#[47]⟩).drop 1).all (fun u => decide (1 ≤ u.length ∧ u.length ≤ 8))) := by
  obtain ⟨hf, hn⟩ := path_parts h
  have ne : ∀ u : Str, u ≠ Str.ofString "" ↔ 1 ≤ u.length := fun u => by
    constructor
    · intro e
      rcases Nat.eq_zero_or_pos u.length with z | z
      · refine absurd (ext_tl ?_) e
        rw [len_tl] at z
        rw [List.length_eq_zero_iff.mp z]
        decide +kernel
      · exact z
    · intro e h
      rw [h] at e
      exact absurd e (by decide +kernel)
  rw [Bool.eq_iff_iff, ← hf, List.all_flatten, List.all_map]
  simp only [Bool.and_eq_true, List.all_eq_true, decide_eq_true_eq, Function.comp]
  generalize (Txt.split s ⟨#[47]⟩).drop 1 = ps at hf hn
  constructor
  · intro a
    refine ⟨⟨?_, fun u hu => (a u hu).2⟩, fun u hu => ⟨(ne u).mp (a u hu).1.1, (a u hu).1.2⟩⟩
    intro e
    cases ps with
    | nil => exact hn rfl
    | cons u r =>
      have hu := (ne u).mp (a u (by simp)).1.1
      rw [e] at hf
      have := congrArg List.length hf
      rw [List.map_cons, List.flatten_cons, List.length_append, ← len_tl] at this
      have z : (tl (Str.ofString "")).length = 0 := by decide +kernel
      omega
  · rintro ⟨⟨_, a⟩, b⟩ u hu
    exact ⟨⟨(ne u).mpr (b u hu).1, (b u hu).2⟩, a u hu⟩
end FR
set_option Elab.async false
set_option linter.all false
set_option maxRecDepth 100000
/-! the last slash of a path; a path without its slashes -/
namespace FR
open PySem PySem.Spec PyProof.Rows L2 TL
theorem rfind_one {x : Str} {c i : Nat} (h : (tl x)[i]? = some c) (h2 : ∀ k, i < k → (tl x)[k]? ≠ some c) : Txt.rfind x ⟨#[c]⟩ = (i : Int) := by
  unfold Txt.rfind
  rcases PySem.StrLaws.last_spec x ⟨#[c]⟩ with ⟨_, hn⟩ | ⟨j, e, hj, hm⟩
  · exact absurd ((PySem.StrLaws.subAt_one x c i).mpr h) (hn i)
  · rw [e]
    have hj' := (PySem.StrLaws.subAt_one x c j).mp hj
    rcases Nat.lt_trichotomy i j with l | l | l
    · exact absurd hj' (h2 j l)
    · rw [l]
    · exact absurd ((PySem.StrLaws.subAt_one x c i).mpr h) (hm i l)
theorem flat_app (ms : List Str) (n : Str) : flat (ms ++ [n]) = flat ms ++ 47 :: tl n := by simp [flat]
theorem rfind_path {ms : List Str} {n : Str} (hn : Nm n) : Txt.rfind (pathOf (ms ++ [n])) (Str.ofString "/") = ((flat ms).length : Int) ∧ cutS (pathOf (ms ++ [n])) none (some ((flat ms).length : Int)) = cat ms := by
  have e : tl (pathOf (ms ++ [n])) = flat ms ++ 47 :: tl n := by rw [pathOf_ne (by simp), tl_cat, flat_app]
  constructor
  · rw [slash]
    refine rfind_one (by rw [e, List.getElem?_append_right (Nat.le_refl _), Nat.sub_self]; rfl) fun k hk h => ?_
    rw [e, List.getElem?_append_right (by omega)] at h
    obtain ⟨j, hj⟩ : ∃ j, k - (flat ms).length = j + 1 := ⟨k - (flat ms).length - 1, by omega⟩
    rw [hj, List.getElem?_cons_succ] at h
    have := hn.lt (List.mem_of_getElem? h)
    omega
  · refine ext_tl ?_
    rw [tl_cutTo, e, tl_cat, List.take_left]
theorem low_of {s : Str} (h0 : tl s ≠ []) (h : ∀ c ∈ tl s, lc c = true) : Txt.isascii s = true ∧ Txt.isalpha s = true ∧ Txt.islower s = true := by
  have ha : Asc s := fun c hc => by have := of_decide_eq_true (h c hc); omega
  refine ⟨isascii_asc ha, ?_, ?_⟩
  · show (decide (s.length > 0) && s.cps.all Unicode.isAlpha) = true
    rw [all_tl, Bool.and_eq_true, decide_eq_true_eq, List.all_eq_true, len_tl]
    exact ⟨List.length_pos_iff.mpr h0, fun c hc => (lc_alpha ⟨c, ha c hc⟩ (h c hc)).1⟩
  · show (s.cps.any Unicode.isLower && !s.cps.any fun c => Unicode.isUpper c || Unicode.isTitle c) = true
    rw [any_tl, any_tl, Bool.and_eq_true, List.any_eq_true, Bool.not_eq_true', List.any_eq_false]
    refine ⟨?_, fun c hc => by have := (lc_alpha ⟨c, ha c hc⟩ (h c hc)).2.2; simpa using this⟩
    obtain ⟨c, hc⟩ := List.exists_mem_of_ne_nil _ h0
    exact ⟨c, hc, (lc_alpha ⟨c, ha c hc⟩ (h c hc)).2.1⟩
theorem path_noSl {ns : List Str} (h : Nms ns) (e : ns ≠ []) : Txt.isascii (noSl (pathOf ns)) = true ∧ Txt.isalpha (noSl (pathOf ns)) = true ∧ Txt.islower (noSl (pathOf ns)) = true := by
  have hm : ∀ c, c ∈ tl (noSl (pathOf ns)) ↔ ∃ s ∈ ns, c ∈ tl s := fun c => by
    rw [tl_noSl, pathOf_ne e, tl_cat, List.mem_filter]
    unfold flat
    rw [List.mem_flatten]
    constructor
    · rintro ⟨⟨l, hl, hc⟩, hne⟩
      obtain ⟨s, hs, rfl⟩ := List.mem_map.mp hl
      rcases List.mem_cons.mp hc with rfl | hc
      · simp at hne
      · exact ⟨s, hs, hc⟩
    · rintro ⟨s, hs, hc⟩
      refine ⟨⟨_, List.mem_map.mpr ⟨s, hs, rfl⟩, List.mem_cons_of_mem _ hc⟩, ?_⟩
      have := (h s hs).lt hc
      simp
      omega
  refine low_of (fun z => ?_) fun c hc => ?_
  · cases ns with
    | nil => exact e rfl
    | cons n r =>
      have h0 := (h n List.mem_cons_self).l0
      rw [len_tl] at h0
      obtain ⟨c, hc⟩ := List.exists_mem_of_length_pos h0
      have := (hm c).mpr ⟨n, List.mem_cons_self, hc⟩
      rw [z] at this
      cases this
  · obtain ⟨s, hs, hc⟩ := (hm c).mp hc
    exact (h s hs).lo c hc
end FR
set_option Elab.async false
set_option linter.all false
set_option maxRecDepth 100000
set_option maxHeartbeats 4000000
/-! bool(x), x == y and x != y of an own class, whatever stands on the right -/
namespace FR
open PySem PySem.Spec PyProof.Rows
theorem call_bool_tru {P : Program} {w : World} {A : Around} {E : Value → Shared → Prop} {s : Shared} {x : Value} {Q : Value → Shared → Prop} (h : wpAny (model P w) A.in1.in1 (truthy x) (fun b s' => Q (.bool b) s') E s) :
    wpAny (model P w) A (call (.type "bool") [x]) Q E s := by
  refine callType_newIn (S := fun A R s => wpAny (model P w) A.in1 (truthy x) (fun b s' => R (.ok (.ret (.bool b))) s') (fun e s' => R (.error e) s') s) PySem.F.called_bool (by decide +kernel) (PySem.F.typeCall_bool_1 x) (PySem.F.newCall_bool_1 x) (fun o => PySem.F.args_object_init_2 o x) PySem.F.entry_bool_new ?_ ?_
  · intro A R s h
    unfold Builtin.«bool.__new__»
    have hsm : someArgs "bool" 0 1 { pos := [x] } = pure [x] := by rfl
    have hty : isType (Value.type "bool") = pure true := by rfl
    have hsub := PySem.F.called_bool.sub
    show wpAny _ _ (do let __do_lift ← isType (Value.type "bool"); _) _ _ _
    rw [hty, pure_bind]
    simp only [hsub, hsm, pure_bind, Bool.not_true, Bool.false_eq_true, if_false]
    refine wpAny_bind (wpAny_mono h (fun b s1 hb => ?_) fun _ _ z => z)
    exact wpAny_pure hb
  · exact wpAny_mono h (fun b s' q => ⟨PySem.typeIs_bool _ _, q⟩) fun _ _ z => z
open L2
open SlX (cmpback run_at)
section
variable {X : Cx} {C g : Addr} {n : Nat} {sp : Sp} {E : XK} {CX : CXT}
/-- bool(x), x of the class at C with an own __bool__ -/
def rBoolI (C : Addr) (sp : Sp) (E : XK) : List V → Hp → VK → Prop := fun xs H Q => ∃ a dx fs, xs = [.ref a] ∧ H a = some (.ins C dx fs) ∧ sp xs H (fun z H' => ∃ b, z = .bl b ∧ Q (.bl b) H') E
theorem call_boolI (hs : PySem.W.findIn X.K (.ref C) "__bool__" = some (some (.ref g))) (hf : PySem.W.isFn X.K (.ref g) = true) (F : FnR X.prog X.w X.K X.mg X.base CX n g sp)
    (hr : Room (n + 2) X.A) (hx : Passes CX X E) : CallR X (.type "bool") (rBoolI C sp E) := by
  intro pins s σ H xs us Q I r h
  obtain ⟨a, dx, fs, rfl, ha, q⟩ := h
  obtain ⟨u, rfl, ru⟩ := r.one
  cases (show u = Value.ref a from ru)
  obtain ⟨od, J⟩ := ins_inst I ha
  obtain ⟨m, hF⟩ := I.fr
  have hr2 : Room n X.A.in1.in1 := (show Room (n + 1) X.A.in1 from Room.in1 hr).in1
  refine call_bool_tru (PySem.W.truthy_K hF I.ok.mod.kin J hs hf (wpAny_mono (wpAny_call (run_at (us := [.ref a]) (ws := [.ref a]) F hr2 I.env0.in1.in1 hx I (.cons rfl .nil) q)) (fun w s' z => ?_) fun _ _ x => x))
  obtain ⟨z', H', I', rz, b, eb, qz⟩ := z
  subst eb
  cases (show w = Value.bool b from rz)
  exact ⟨.bl b, H', I', rfl, qz⟩
/-- not x, as a value -/
def rNotR (r : V → Hp → (Bool → Hp → Prop) → Prop) : V → Hp → VK → Prop := fun x H Q => r x H fun b H' => Q (.bl (!b)) H'
theorem un_not {r : V → Hp → (Bool → Hp → Prop) → Prop} (h : TruR X r) : UnR X (unaryOp .Not) (rNotR r) := by
  intro pins s σ H x v Q I rx q
  unfold unaryOp
  refine wpAny_holding ?_
  show wpAny _ _ (do let b ← truthy v; pure (Value.bool !b)) _ _ _
  refine wpAny_bind (wpAny_mono (h pins s σ H x v _ I rx q) (fun b s' z => ?_) fun _ _ z => z)
  obtain ⟨H', I', q'⟩ := z
  exact wpAny_pure ⟨.bl (!b), H', I', rfl, q'⟩
/-- what stands on the right of a comparison: one of the class, a text, a whole number -/
inductive Right (K : PySem.W.Frag) (H : Hp) (C : Addr) : V → Prop
  | own {b dy : Addr} {gs : List (Str × V)} : H b = some (.ins C dy gs) → Right K H C (.ref b)
  | str (t : Str) : PySem.W.notFirst K C (.type "str") = true → Right K H C (.str t)
  | int (i : Int) : PySem.W.notFirst K C (.type "int") = true → Right K H C (.int i)
theorem right_looks {pins : List (Addr × Obj)} {σ : L2.St} {H : Hp} {s : Shared} {y : V} {u : Value} (I : Inv X pins σ H s) (r : RelV y u) (h : Right X.K H C y) : ∃ tb, PySem.W.Looks (model X.prog X.w) s.heap (typeOf u) tb ∧ PySem.W.notFirst X.K C tb = true := by
  cases h with
  | own e =>
    cases (show u = _ from r)
    obtain ⟨od, J⟩ := ins_inst I e
    exact ⟨_, J.type, by unfold PySem.W.notFirst; simp⟩
  | str t e =>
    obtain ⟨tk, rfl⟩ := (show ∃ tk, u = Value.str t tk from r)
    exact ⟨_, fun A Q E s' _ q => by show wpAny _ _ (pure (Value.type "str")) _ _ _; exact wpAny_pure q, e⟩
  | int i e =>
    obtain ⟨tk, rfl⟩ := (show ∃ tk, u = Value.int i tk from r)
    exact ⟨_, fun A Q E s' _ q => by show wpAny _ _ (pure (Value.type "int")) _ _ _; exact wpAny_pure q, e⟩
def rCmpA (K : PySem.W.Frag) (C : Addr) (sp : Sp) (E : XK) : R2 := fun x y H Q => ∃ a dx fs, x = .ref a ∧ H a = some (.ins C dx fs) ∧ Right K H C y ∧ sp [x, y] H Q E
theorem op_cmpA {op : CmpOp} (hop : ∀ a b, compareOp op a b = richCompare op a b) (hs : PySem.W.findIn X.K (.ref C) (cmpInfo op).2.1 = some (some (.ref g))) (hf : PySem.W.isFn X.K (.ref g) = true) (F : FnR X.prog X.w X.K X.mg X.base CX n g sp)
    (hr : Room n X.A) (hx : Passes CX X E) : OpR X (compareOp op) (rCmpA X.K C sp E) := by
  intro pins s σ H x y v u Q I rx ry h
  obtain ⟨a, dx, fs, rfl, ha, hy, q⟩ := h
  cases (show v = Value.ref a from rx)
  obtain ⟨od, J⟩ := ins_inst I ha
  obtain ⟨tb, hl, hn⟩ := right_looks I ry hy
  obtain ⟨m, hF⟩ := I.fr
  rw [hop]
  refine PySem.W.cmp_K (op := op) (tb := tb) hr.units0 hF I.ok.mod.kin J hl hn hs hf ?_
  refine wpAny_mono (wpAny_call (run_fnR (us := [.ref a, u]) (vs := [.ref a, y]) F hr hx I (.cons rfl (.cons ry .nil)) q)) (fun w s' z => ?_) fun _ _ x => x
  obtain ⟨z', H', I', rz, qz⟩ := z
  exact cmpback rz ⟨z', H', I', rz, qz⟩
def rNeA (K : PySem.W.Frag) (C : Addr) (sp : Sp) (E : XK) : R2 := fun x y H Q => ∃ a dx fs, x = .ref a ∧ H a = some (.ins C dx fs) ∧ Right K H C y ∧ sp [x, y] H (fun z H' => ∃ v, z = .bl v ∧ Q (.bl (!v)) H') E
theorem op_neA (hm : PySem.W.mroIn X.K C (.type "object") = some true) (hne : PySem.W.findIn X.K (.ref C) "__ne__" = some (some (.builtin "object.__ne__"))) (hs : PySem.W.findIn X.K (.ref C) "__eq__" = some (some (.ref g))) (hf : PySem.W.isFn X.K (.ref g) = true)
    (F : FnR X.prog X.w X.K X.mg X.base CX n g sp) (hr : Room (n + 1) X.A) (hx : Passes CX X E) : OpR X (compareOp .NotEq) (rNeA X.K C sp E) := by
  intro pins s σ H x y v u Q I rx ry h
  obtain ⟨a, dx, fs, rfl, ha, hy, q⟩ := h
  cases (show v = Value.ref a from rx)
  obtain ⟨od, J⟩ := ins_inst I ha
  obtain ⟨tb, hl, hn⟩ := right_looks I ry hy
  refine rc_ne_own (tb := tb) hr.units0 hr.in1.units0 I.kIn J hl hn hm hne hs hf ?_
  refine wpAny_mono (wpAny_call (run_at (us := [.ref a, u]) (ws := [.ref a, y]) F hr.in1 I.env0.in1 hx I (.cons rfl (.cons ry .nil)) q)) (fun w s' z => ?_) fun _ _ x => x
  obtain ⟨z', H', I', rz, b', eb, qz⟩ := z
  subst eb
  cases (show w = Value.bool b' from rz)
  exact ⟨b', rfl, .bl (!b'), H', I', rfl, qz⟩
end
/-- isinstance(x, C): x one of the class, or of another kind -/
def rIsA (K : PySem.W.Frag) (C : Addr) : List V → Hp → VK → Prop := fun xs H Q => (∃ a dx fs, xs = [.ref a, .ref C] ∧ H a = some (.ins C dx fs) ∧ Q (.bl true) H) ∨ rIsi K xs H Q
theorem call_isA {X : Cx} {C : Addr} (h : C8.InsC X.K C) : CallR X (.builtin "isinstance") (rIsA X.K C) := by
  intro pins s σ H xs us Q I r q
  rcases q with q | q
  · exact C8.call_isC h pins s σ H xs us Q I r q
  · exact call_isi pins s σ H xs us Q I r q
theorem op_in_seqK {X : Cx} {K : PySem.W.Frag} (h : X.K = K) : OpR X (compareOp .In) (rIn K false) := h ▸ op_in_seq
theorem kit_ofT {K : PySem.W.Frag} {n : String} {S : Addr} {b : Bool} (h2 : PySem.W.isClsIn K S = true) (h3 : PySem.W.typeIn K (.ref S) = some (.type "type")) (h4 : PySem.W.subIn K (.type n) (.ref S) = some b) : PySem.W.kitOne K (.type n) (.ref S) = some b := by
  have e2 : ((PySem.W.clsIn K S).isSome && PySem.W.typeIn K (.ref S) == some (.type "type")) = true := by
    rw [show (PySem.W.clsIn K S).isSome = true from h2, h3] <;> rfl
  unfold PySem.W.kitOne
  rw [if_neg (show ¬ (Value.type n == Value.ref S) = true by simp)]
  show (if ((PySem.W.clsIn K S).isSome && PySem.W.typeIn K (.ref S) == some (.type "type")) = true then PySem.W.subIn K (.type n) (.ref S) else none) = some b
  rw [if_pos e2]
  exact h4
end FR
set_option Elab.async false
set_option linter.all false
set_option maxRecDepth 100000
/-! cls(..) where cls is a local; classmethods -/
namespace FR
open PySem PySem.Spec PyProof.Rows L2 TL
section
variable {X : Cx} {CX : CXT} {k : Nat} {f C : Addr} {fd : FuncData} {ps : List Str} {sp : Sp} {dvs : List V} {ds : List Value} {E : XK} {x : Str} {p pos : Pos} {i : Nat}
def tMakeL (i : Nat) (C : Addr) (sp : Sp) (dvs : List V) (E : XK) (t : TA) : TE := fun σ H Q => σ[i]? = some (some (.ref C)) ∧ tMake C sp dvs E t σ H Q
theorem pe_makeL0 (hv : PE X (.Name x p) (tVar i)) (M : Mk X.K C f) (F : FnOk X.prog X.w X.K X.mg X.base CX k f fd ps sp) (hr : Room (k + 1) X.A) (hb : Binds X.K fd ps ds) (hd : Vals dvs ds) (hx : Passes CX X E) :
    PE X (.Call (.Name x p) [] [] pos) (tMakeL i C sp dvs E tNil) := by
  refine ⟨fun pins s σ H Q I h => ?_⟩
  obtain ⟨h1, h2⟩ := h
  refine wpAny_Call_Name_kw (thn (hv.run pins s σ H (fun v H' => v = .ref C ∧ tMake C sp dvs E tNil σ H' Q) I ⟨_, h1, rfl, h2⟩) fun u s1 hh => ?_)
  obtain ⟨v, H1, I1, r1, rfl, q⟩ := hh
  cases (show u = Value.ref C from r1)
  refine PySem.W.callWith_K0 I1.kIn M.kp ?_
  exact run_make (us := []) (vs := []) M F hr hb hd hx I1 .nil q
theorem pe_makeL {e : Expr} {es : List Expr} {t : TA} (hv : PE X (.Name x p) (tVar i)) (M : Mk X.K C f) (F : FnOk X.prog X.w X.K X.mg X.base CX k f fd ps sp) (hr : Room (k + 1) X.A) (hb : Binds X.K fd ps ds) (hd : Vals dvs ds) (hx : Passes CX X E) (ha : PA X (e :: es) t)
    (he : starEach (e :: es) X.env = (false, eval e X.env) :: starEach es X.env := by rfl) (hpl : (backTo pos (starEach es X.env)).any (·.1) = false := by rfl) :
    PE X (.Call (.Name x p) (e :: es) [] pos) (tMakeL i C sp dvs E t) := by
  refine ⟨fun pins s σ H Q I h => ?_⟩
  obtain ⟨h1, h2⟩ := h
  refine wpAny_Call_Name_kw (thn (hv.run pins s σ H (fun v H' => v = .ref C ∧ tMake C sp dvs E t σ H' Q) I ⟨_, h1, rfl, h2⟩) fun u s1 hh => ?_)
  obtain ⟨v, H1, I1, r1, rfl, q⟩ := hh
  cases (show u = Value.ref C from r1)
  refine PySem.W.callWith_K (h₀ := X.base) I1.ok.mod.kin M.kp (thn (ha.run pos pins s1 σ H1 _ I1 q) fun us s2 hz => ?_) he hpl
  obtain ⟨vs, H2, I2, r2, q2⟩ := hz
  exact ⟨I2.kIn, run_make (us := us) (vs := vs) M F hr hb hd hx I2 r2 q2⟩
end
end FR
set_option Elab.async false
set_option linter.all false
set_option maxRecDepth 100000
/-! x in t, t a tuple of data, x any datum -/
namespace FR
open PySem PySem.Spec PyProof.Rows L2 TL PySem.SeqAt
def rInTD (K : PySem.W.Frag) : R2 := fun x y H Q => ∃ (p : Addr) (d : PyData) (ds : List PyData), y = .ref p ∧ Dp K H x d ∧ Dp K H y (.tuple ds) ∧ SeqAt.shaped d = true ∧ PyData.canLayAll0 ds = true ∧ Q (.bl (ds.any fun z => z.eqv d)) H
theorem op_inTD {X : Cx} (hu : X.A.units + 65 < cLine) : OpR X (compareOp .In) (rInTD X.K) := by
  intro pins s σ H x y v u Q I rx ry h
  obtain ⟨p, d, ds, rfl, hd, hy, s1, c2, q⟩ := h
  cases (show u = Value.ref p from ry)
  obtain ⟨as, r1⟩ := Dp.reads I _ _ _ hd rx
  obtain ⟨bs, r2⟩ := Dp.reads I _ _ _ hy ry
  unfold SeqAt.shaped at s1
  rw [Bool.and_eq_true, decide_eq_true_eq] at s1
  cases r2 with
  | tuple e hc hdt hr =>
    refine in_tupleAt (fun z => (readOf s.heap z).eqv d) ⟨_, e, hc, _, hdt⟩ (items_eqAt hr r1 c2 s1.1 (by have := Nat.min_le_right (PyData.depthAll ds) d.depth; omega)) ⟨.bl (ds.any fun z => z.eqv d), H, I, ?_, q⟩
    show Value.bool _ = Value.bool _
    rw [any_by_data hr c2]
end FR
set_option Elab.async false
set_option linter.all false
set_option maxRecDepth 100000
/-! keyword calls of raising defs -/
namespace FR
open PySem PySem.Spec PyProof.Rows L2 TL
section
variable {X : Cx} {CX : CXT} {k n : Nat} {f : Addr} {fd : FuncData} {ps ks : List Str} {sp : Sp} {E : L2.St → XK} {x : Str} {p pos : Pos} {e : Expr} {es : List Expr} {kws : List Keyword} {t tk : TA} {g : List Value → List Value → List Value} {gV : List V → List V → List V}
theorem run_fnNS {pins : List (Addr × Obj)} {σ : L2.St} {H : Hp} {s : Shared} {Q : VK} {us ws : List Value} {vs zs : List V} (F : FnOk X.prog X.w X.K X.mg X.base CX k f fd ps sp) (hr : Room k X.A) (hb : KBn X.K fd ps n ks g gV) (hx : PassesAt CX X σ (E σ))
    (I : Inv X pins σ H s) (r : Vals vs us) (rz : Vals zs ws) (l1 : vs.length = n) (l2 : zs.length = ks.length) (h : sp (gV vs zs) H Q (E σ)) : wpAny (model X.prog X.w) X.A (call (.ref f) us (ks.zip ws)) (EP X pins σ Q) X.xe s := by
  have r2 := hb.rel r rz
  refine wpAny_call (codeAny_mono (F.run X.A X.stack s H ⟨us, ks.zip ws⟩ (g us ws) (gV vs zs) Q (E σ) hr I.env0 (hb.to s us ws I.kIn (r.length.symm.trans l1) (rz.length.symm.trans l2)) r2 h) fun r s' hq => ?_)
  cases r with
  | error e => exact hx pins H s e s' I hq
  | ok fl =>
    cases fl with
    | ret u => exact I.after hq
    | next => exact False.elim hq
    | brk => exact False.elim hq
    | cont => exact False.elim hq
def tCallNS (n m : Nat) (sp : Sp) (gV : List V → List V → List V) (E : L2.St → XK) (t tk : TA) : TE := fun σ H Q => t σ H fun vs H1 => tk σ H1 fun zs H2 => vs.length = n ∧ zs.length = m ∧ sp (gV vs zs) H2 Q (E σ)
theorem pe_callN0S (F : FnOk X.prog X.w X.K X.mg X.base CX k f fd ps sp) (hr : Room k X.A) (hg : Gl X x) (hm : X.mg x = some (.ref f)) (hk : PySem.W.keepIn X.K (.ref f) = true) (hb : KBn X.K fd ps 0 ks g gV) (hx : ∀ σ, PassesAt CX X σ (E σ)) (hkw : PK X kws tk)
    (hall : (backToKw pos (keywordEach kws X.env)).all (·.1.isSome) = true := by rfl) (hks : (backToKw pos (keywordEach kws X.env)).filterMap (·.1) = ks := by rfl) (hdb : (x == ("__debug__" : Str)) = false := by decide)
    (hpl : ((backTo pos (starEach [] X.env)).any (·.1) || (backToKw pos (keywordEach kws X.env)).any (·.1.isNone)) = false := by rfl) : PE X (.Call (.Name x p) [] kws pos) (tCallNS 0 ks.length sp gV E tNil tk) := ⟨fun pins s σ H Q I h => by
  refine wpAny_Call_Name_kw (ld_glob I hg hm (PySem.W.callWith_KW0 (h₀ := X.base) I.ok.mod.kin hk hall ?_ hpl) hdb)
  refine thn (hkw.run pos pins s σ H _ I h) fun ws s2 hz => ?_
  obtain ⟨zs, H2, I2, rz, l1, l2, q2⟩ := hz
  refine ⟨I2.kIn, ?_⟩
  rw [hks]
  exact run_fnNS (us := []) (vs := []) F hr hb (hx σ) I2 .nil rz rfl l2 q2⟩
end
end FR
set_option Elab.async false
set_option linter.all false
set_option maxRecDepth 100000
/-! t + u and t[lo:hi] of tuples, whichever object stands for them -/
namespace FR
open PySem PySem.Spec PyProof.Rows L2 TL
section
variable {X : Cx}
def rCatK : R2 := fun x y H Q => ∃ a b xs ys, x = .ref a ∧ y = .ref b ∧ H a = some (.tup xs) ∧ H b = some (.tup ys) ∧ xs.length + ys.length ≤ sizeLine ∧ ∀ p H', Keep [] H H' → H' p = some (.tup (xs ++ ys)) → Q (.ref p) H'
theorem op_catK : OpR X (binaryOp .Add) rCatK := fun pins s σ H x y v u Q I rx ry h => by
  obtain ⟨a, b, xs, ys, rfl, rfl, ha, hb, hz, q⟩ := h
  refine op_catA pins s σ H _ _ v u Q I rx ry ⟨a, b, xs, ys, rfl, rfl, .inl (.inl ha), .inl (.inl hb), hz, fun e => q b H Keep.refl (by rw [e]; exact hb), fun _ e => q a H Keep.refl (by rw [e, List.append_nil]; exact ha), fun _ _ p np => q p _ (keep_new np) upd_same⟩
def rSlK : V → Option Int → Option Int → Hp → VK → Prop := fun x lo hi H Q => ∃ a xs, x = .ref a ∧ H a = some (.tup xs) ∧ ∀ p H', Keep [] H H' → H' p = some (.tup (cutV xs lo hi)) → Q (.ref p) H'
theorem sl_tupK : SlR X rSlK := fun pins s σ H x v vl vu lo hi sl Q I rx hs pl pu h => by
  obtain ⟨a, xs, rfl, ha, q⟩ := h
  refine sl_tupA pins s σ H _ v vl vu lo hi sl Q I rx hs pl pu ⟨a, xs, rfl, .inl (.inl ha), fun e => q a H Keep.refl ?_, fun _ p np => q p _ (keep_new np) upd_same⟩
  rw [ha]
  unfold cutV
  rw [e.1, e.2, List.drop_zero, Nat.sub_zero, List.take_length]
end
theorem cutV_mem {xs : List V} {lo hi : Option Int} {x : V} (h : x ∈ cutV xs lo hi) : x ∈ xs := List.mem_of_mem_drop (List.mem_of_mem_take h)
end FR
set_option Elab.async false
set_option linter.all false
set_option maxRecDepth 100000
/-! blocks of a def that are shown by themselves -/
namespace FR
open PySem PySem.Spec PyProof.Rows L2 TL
/-- a block, by what it asks -/
theorem pss_b {X : Cx} {b : List Stmt} {t R : TS} (h : PSs X b t) (k : ∀ D σ H, R D σ H → t D σ H) : PSs X b R := ⟨fun pins s σ H D I q => h.run pins s σ H D I (k D σ H q)⟩
def bdF : Stmt → List Stmt
  | .For _ _ b _ _ => b
  | .While _ b _ _ => b
  | .If _ b _ _ => b
  | .Try b _ _ _ _ => b
  | _ => []
def bdE : Stmt → List Stmt
  | .For _ _ _ b _ => b
  | .While _ _ b _ => b
  | .If _ _ b _ => b
  | .Try _ _ b _ _ => b
  | _ => []
def nth (l : List Stmt) (i : Nat) : Stmt := l.getD i (.Pass ⟨0, 0, 0, 0⟩)
/-- repr, its text kept closed -/
theorem rep_to {K : PySem.W.Frag} {xs : List V} {H : Hp} {Q : VK} {p : Addr} {d : PyData} {tx : Str} (e : d.shown = tx) (h : Dp K H (.ref p) d ∧ d.showable = true ∧ d.hasDict = false ∧ d.depth ≤ 50 ∧ d.shown.length ≤ sizeLine) (hx : xs = [.ref p]) (q : Q (.str tx) H) : rReprD K xs H Q :=
  ⟨p, d, hx, h.1, h.2.1, h.2.2.1, h.2.2.2.1, h.2.2.2.2, by rw [e]; exact q⟩
theorem rep_ex {K : PySem.W.Frag} {H : Hp} {p : Addr} {d : PyData} (_ : Dp K H (.ref p) d ∧ d.showable = true ∧ d.hasDict = false ∧ d.depth ≤ 50 ∧ d.shown.length ≤ sizeLine) : ∃ t, d.shown = t := ⟨_, rfl⟩
theorem same_txt {t : Str} {A B : Prop} (b : B) : if (!decide (V.str t = V.str t)) = true then A else B := by
  rw [decide_eq_true rfl]
  exact b
end FR
set_option Elab.async false
set_option linter.all false
set_option maxRecDepth 100000
set_option maxHeartbeats 4000000
/-! set(x) of any text of seven bits; its len -/
namespace FR
open PySem PySem.Spec PyProof.Rows PySem.Froz
/-- the signs that were met, each once -/
def meet (l : List Str) (cs : List Nat) : List Str := cs.foldl (fun l c => if sing c ∈ l then l else sing c :: l) l
section
variable {P : Program} {w : World} {A : Around} {E : Value → Shared → Prop}
/-- a text that is there already -/
theorem add_there {s : Shared} {a : Addr} {T : String} {D : SD} {l : List Str} {k : Str} {u : Tok} {Q : Bool → Shared → Prop} (at_ : s.heap.get? a = some (sObj T D)) (F : TxOk P w D l) (m : k ∈ l) (room : l.length < scanBound) (q : Q false s) :
    wpAny (model P w) A (setAddHashed a (.str k u) (hashStr w k)) Q E s := by
  obtain ⟨es, ep, t⟩ := D
  have data : (sObj T (es, ep, t)).data = .set es ep t := rfl
  have small : es.size < scanBound := by
    have : es.size = l.length := F.sz
    omega
  have key : (strKind P w).is k (.str k u) = true := is_str k u
  obtain ⟨j, hj⟩ : ∃ j, List.findIdx? (fun e => (strKind P w).is k e.2) es.toList = some j := by
    cases z : List.findIdx? (fun e => (strKind P w).is k e.2) es.toList with
    | some j => exact ⟨j, rfl⟩
    | none =>
      obtain ⟨e, he, y⟩ := (F.mem k).mp m
      have := List.findIdx?_eq_none_iff.mp z e he
      rw [y] at this
      cases this
  unfold setAddHashed setAddHashedIn
  refine wpAny_holding (wpAny_bind (wpAny_setState_of at_ data F.fit ?_))
  dsimp only
  rw [byScan_of rfl small F.el, if_pos rfl]
  unfold setAddByScan
  refine wpAny_bind (wpAny_bind (wpAny_rule (wpAny_bind (wpAny_setScan_of (knd := strKind P w) (k := k) key at_ data F.fit F.el ?_))))
  rw [hj]
  exact wpAny_pure (wpAny_pure q)
/-- the rest of a text's signs into the set -/
theorem upd_signs {R : Result → Shared → Prop} {a it : Addr} (ne : a ≠ it) {T : String} {x : Str} {u : Tok} (hh : A.handled = none) : ∀ (cs : List Nat) (i : Nat) (D : SD) (l : List Str) (s : Shared), x.cps.toList.drop i = cs →
    s.heap.get? a = some (sObj T D) → s.heap.get? it = some (itObj x u i) → TxOk P w D l → l.length + cs.length < scanBound →
    (∀ (D' : SD) (h' : Heap) (tk : Nat), TxOk P w D' (meet l cs) → h'.get? a = some (sObj T D') → (∀ b o, b ≠ a → b ≠ it → s.heap.get? b = some o → h'.get? b = some o) → R (.ok (.ret .none)) { s with heap := h', toks := tk }) →
    codeAny (model P w) A (.builtin "set.update.loop" ⟨[.ref a, .ref it], []⟩) R s
  | [], i, D, l, s, dr, ha, hit, F, room, q => by
    refine codeAny_builtin PyProof.Rows.F.entry_set_update_loop ?_
    rw [Around.under_plainId PyProof.Rows.F.plain_set_update_loop _]
    show wpAny _ A.in1 (pyNext (.ref it) >>= fun _ => _) _ _ s
    refine wpAny_bind (end_x (u := u) (by exact hh) hit (at_end dr) ?_)
    show wpAny _ A.in1 (ret Value.none) _ _ _
    refine wpAny_pure (q D _ _ F (Heap.get?_push_of_some _ (Heap.get?_push_of_some _ (PySem.Heap.get?_update_of_ne _ (Ne.symm ne) ha))) fun b o _ n2 e => ?_)
    exact Heap.get?_push_of_some _ (Heap.get?_push_of_some _ (PySem.Heap.get?_update_of_ne _ (Ne.symm n2) e))
  | c :: r, i, D, l, s, dr, ha, hit, F, room, q => by
    obtain ⟨hx, dr2⟩ := at_of dr
    have room2 : l.length + (r.length + 1) < scanBound := room
    have move : ∀ b o, b ≠ it → s.heap.get? b = some o → (s.heap.update it (fun _ => itObj x u (i + 1))).get? b = some o := fun b o n e => PySem.Heap.get?_update_of_ne _ (Ne.symm n) e
    refine codeAny_builtin PyProof.Rows.F.entry_set_update_loop ?_
    rw [Around.under_plainId PyProof.Rows.F.plain_set_update_loop _]
    show wpAny _ A.in1 (pyNext (.ref it) >>= fun _ => _) _ _ s
    refine wpAny_bind (next_x (u := u) hit hx ?_)
    show wpAny _ A.in1 (holding [Value.str (sing c) s.toks] (setAdd a (.str (sing c) s.toks)) >>= fun _ => _) _ _ _
    refine wpAny_bind (wpAny_holding ?_)
    unfold setAdd
    refine wpAny_holding (wpAny_bind ((strKind P w).pyHash (k := sing c) (is_str _ _) ?_))
    have ha1 := move a _ ne ha
    have hit1 : (s.heap.update it (fun _ => itObj x u (i + 1))).get? it = some (itObj x u (i + 1)) := get_upd _ hit rfl
    by_cases m : sing c ∈ l
    · refine add_there (s := { s with heap := s.heap.update it (fun _ => itObj x u (i + 1)), toks := s.toks + 1 + 1 }) ha1 F m (by omega) ?_
      refine wpAny_pure ⟨plainId_quiet PyProof.Rows.F.plain_set_update_loop _, upd_signs ne hh r (i + 1) D l _ dr2 ha1 hit1 F (by omega) fun D' h' tk F' a' k' => ?_⟩
      exact q D' h' tk (by unfold meet at F' ⊢; rw [List.foldl_cons, if_pos m]; exact F') a' fun b o n1 n2 e => k' b o n1 n2 (move b o n2 e)
    · refine add_x (l := l) (D := D) (s := { s with heap := s.heap.update it (fun _ => itObj x u (i + 1)), toks := s.toks + 1 + 1 }) ha1 F m (by omega) ?_
      have ha2 : ((s.heap.update it (fun _ => itObj x u (i + 1))).update a (fun _ => sObj T (addTx (hashStr w (sing c)) (.str (sing c) s.toks) D))).get? a = some (sObj T (addTx (hashStr w (sing c)) (.str (sing c) s.toks) D)) := get_upd _ ha1 rfl
      have hit2 : ((s.heap.update it (fun _ => itObj x u (i + 1))).update a (fun _ => sObj T (addTx (hashStr w (sing c)) (.str (sing c) s.toks) D))).get? it = some (itObj x u (i + 1)) := PySem.Heap.get?_update_of_ne _ ne hit1
      refine wpAny_pure ⟨plainId_quiet PyProof.Rows.F.plain_set_update_loop _, upd_signs ne hh r (i + 1) _ (sing c :: l) _ dr2 ha2 hit2 (add_ok s.toks F) (by show l.length + 1 + r.length < scanBound; omega) fun D' h' tk F' a' k' => ?_⟩
      exact q D' h' tk (by unfold meet at F' ⊢; rw [List.foldl_cons, if_neg m]; exact F') a' fun b o n1 n2 e => k' b o n1 n2 (PySem.Heap.get?_update_of_ne _ (Ne.symm n1) (move b o n2 e))
theorem call_set_any {s : Shared} {x : Str} {u : Tok} {Q : Value → Shared → Prop} (hh : A.handled = none) (ha : x.cps.all (· < 128) = true) (hb : x.cps.toList.length < scanBound)
    (h : ∀ (h' : Heap) (tk : Nat) (D : SD), h'.get? s.heap.objs.size = some (sObj "set" D) → TxOk P w D (meet [] x.cps.toList) → (∀ b o, b < s.heap.objs.size → s.heap.get? b = some o → h'.get? b = some o) →
      Q (.ref s.heap.objs.size) { s with heap := h', toks := tk }) :
    wpAny (model P w) A (call (.type "set") [.str x u]) Q E s := by
  obtain ⟨c, tl, hmro⟩ := PySem.F.called_set.mro
  have hmade := PySem.F.called_set.made
  have hsub := PySem.F.called_set.sub
  refine wpAny_call (codeAny_of_tree ?_)
  show wpAny _ _ (callAny (.type "set") _) _ _ _
  refine wpAny_pure ⟨Code.quiet_builtin _ (by decide +kernel), codeAny_builtin PySem.F.entry_type_call ?_⟩
  rw [Around.under_plain (weight_type_call_type "set" [.str x u] []) rfl]
  have h1 := PySem.F.called_set.notType
  have h2 := PySem.F.called_set.canCreate
  have hct := PySem.F.typeCall_set_1 (.str x u)
  repeat (any_goals (first | assumption | wp_step))
  let S0 : Bool → Obj := fun led => { cls := .type "set", dict := none, data := .set #[] 0 (.fresh 0 0 led) }
  refine codeAny_mono (code_set_new_1 (.str x u) (E := E) (Q₁ := fun obj s1 => ∃ led : Bool, obj = .ref s.heap.objs.size ∧ s1 = { s with heap := s.heap.push (S0 led) }) fun led => ⟨led, rfl, rfl⟩) fun r s1 hr => ?_
  match r, hr with
  | .error e, hr => exact hr
  | .ok (.ret obj), hr =>
    obtain ⟨led, rfl, rfl⟩ := hr
    have hS : (s.heap.push (S0 led)).get? s.heap.objs.size = some (S0 led) := Heap.get?_push_size _ rfl
    have hT : Shared.TypeIs { s with heap := s.heap.push (S0 led) } (.ref s.heap.objs.size) "set" := ⟨_, hS, rfl⟩
    have hli := PySem.F.called_set.init.lookup
    have hbi := PySem.F.called_set.init.bind (.ref s.heap.objs.size)
    repeat (any_goals (first | assumption | wp_step))
    refine codeAny_mono (codeAny_call_builtin (R := wants (fun r s2 => r = .none ∧ ∃ (h' : Heap) (tk : Nat) (D : SD), s2 = { s with heap := h', toks := tk } ∧ h'.get? s.heap.objs.size = some (sObj "set" D) ∧ TxOk P w D (meet [] x.cps.toList) ∧
      (∀ b o, b < s.heap.objs.size → s.heap.get? b = some o → h'.get? b = some o)) E) PySem.F.called_set.init.plain PySem.F.entry_set_init (check_set_init_1 hT ?_)) fun r2 s2 hr2 => ?_
    · have hs1 := PySem.F.sub_str_set
      have hs2 := PySem.F.sub_str_frozenset
      have hne : (Value.type "str" == Value.type "dict") = false := by decide
      unfold Builtin.«set.__init__» noKeywords Builtin.Frozenset.updateFrom
      generalize hPI : pyIter = PI
      wp_walk
      subst hPI
      refine wpAny_pyIter_ascii ha ?_
      refine wpAny_bind (wpAny_runValue ?_)
      have hsz : (s.heap.push (S0 led)).objs.size = s.heap.objs.size + 1 := Heap.size_push ..
      have hne2 : s.heap.objs.size ≠ (s.heap.push (S0 led)).objs.size := by omega
      have F0 : TxOk P w (#[], 0, .fresh 0 0 led) [] := TxOk.nil (by rfl)
      refine upd_signs (T := "set") (x := x) (u := u) (P := P) (w := w) hne2 (by simp [hh]) x.cps.toList 0 (#[], 0, .fresh 0 0 led) [] _ rfl (Heap.get?_push_of_some _ hS) (Heap.get?_push_size _ rfl) F0 (by simpa using hb) fun D' h' tk F' a' k' => ?_
      show wpAny _ _ (pure ()) _ _ _
      refine wpAny_pure ?_
      show wpAny _ _ (ret Value.none) _ _ _
      refine wpAny_pure ⟨rfl, _, _, D', rfl, a', F', fun b o hb2 e => ?_⟩
      have n1 : b ≠ s.heap.objs.size := Nat.ne_of_lt hb2
      have n2 : b ≠ (s.heap.push (S0 led)).objs.size := by omega
      exact k' b o n1 n2 (Heap.get?_push_of_some _ (Heap.get?_push_of_some _ e))
    · match r2, hr2 with
      | .error e, hr2 => exact hr2
      | .ok (.ret r), hr2 =>
        obtain ⟨rfl, h', tk, D, rfl, g1, g2, g4⟩ := hr2
        repeat (any_goals (first | assumption | wp_step))
        exact h _ _ _ g1 g2 g4
      | .ok .next, hr2 => exact hr2.elim
      | .ok .brk, hr2 => exact hr2.elim
      | .ok .cont, hr2 => exact hr2.elim
  | .ok .next, hr => exact hr.elim
  | .ok .brk, hr => exact hr.elim
  | .ok .cont, hr => exact hr.elim
end
section
open L2
theorem meet_len : ∀ (cs : List Nat) (l : List Str), (meet l cs).length ≤ l.length + cs.length
  | [], l => Nat.le_refl _
  | c :: r, l => by
    unfold meet
    rw [List.foldl_cons]
    have h1 := meet_len r l
    have h2 := meet_len r (sing c :: l)
    unfold meet at h1 h2
    split
    · simp only [List.length_cons] at h1 ⊢; omega
    · simp only [List.length_cons] at h2 ⊢; omega
def tLenSetA (ta : TE) : TE := fun σ H Q => ta σ H fun x H1 => ∃ t : Str, x = .str t ∧ t.cps.all (· < 128) = true ∧ t.cps.toList.length ≤ 4000 ∧ Q (.int ((meet [] t.cps.toList).length : Nat)) H1
/-- len(set(e)), e a text -/
theorem pe_lenSetA {X : Cx} {a : Expr} {ta : TE} {p p2 q pos : Pos} (hg : Gl X "len") (hm : X.mg "len" = none) (hg2 : Gl X "set") (hm2 : X.mg "set" = none) (ha : PE X a ta) (hc : X.calm = true := by rfl)
    (na : starEach [a] X.env = (false, eval a X.env) :: starEach [] X.env := by rfl) : PE X (.Call (.Name "len" p) [.Call (.Name "set" p2) [a] [] q] [] pos) (tLenSetA ta) := by
  refine ⟨fun pins s σ H Q I h => ?_⟩
  refine Call_ (ld_blt I hg hm boot_len ?_)
  refine PyProof.Rows.callWith_builtin1 (PyProof.Rows.args_cons ?_ rfl) rfl rfl
  refine Call_ (ld_blt I hg2 hm2 (show bootBuiltins ("set" : Str) = some (.type "set") by decide +kernel) ?_)
  refine PyProof.Rows.callWith_type1 (PyProof.Rows.args_cons (thn (ha.run pins s σ H _ I h) fun v s1 ⟨x, H1, I1, r1, q1⟩ => PyProof.Rows.args_nil ?_) na) na rfl
  obtain ⟨t, rfl, h1, h3, q1⟩ := q1
  obtain ⟨tk0, rfl⟩ := r1
  refine call_set_any (I1.ok.hd hc) h1 (by unfold scanBound; omega) fun h' tk D g1 F hk => ?_
  refine PyProof.Rows.args_nil ?_
  have I2 : Inv X pins σ H1 { s1 with heap := h', toks := tk } := I1.kept fun b o e => hk b o (Heap.lt_size e) e
  have hn : D.1.size = (meet [] t.cps.toList).length := F.sz
  have hl := meet_len t.cps.toList []
  simp only [List.length_nil, Nat.zero_add] at hl
  exact call_len_set (es := D.1) (ep := D.2.1) (t := D.2.2) g1 ⟨rfl, rfl, rfl⟩ rfl F.fit (by rw [hn]; omega) ⟨.int (meet [] t.cps.toList).length, H1, I2.tok _, ⟨_, by rw [hn]⟩, q1⟩
end
end FR
set_option Elab.async false
set_option linter.all false
set_option maxRecDepth 100000
set_option maxHeartbeats 2000000
/-! a lambda handed to a def, where no repr is under way -/
namespace FR
open PySem PySem.Spec PyProof.Rows L2 TL LamX
section
variable {X : Cx} {σ : L2.St} {H : Hp} {s : Shared} {params : Arguments} {body : Expr} {scope : Scope} {f c' : Addr} {pm ctv : Value} {pins : List (Addr × Obj)}
/-- the lambda's own run, at the around Y -/
theorem lam_run {Y : Around} {outer : List Env} {s1 : Shared} {HZ : Hp} {E : XK} {Q : VK} {tb : TE} {k : Nat} (I : Inv X pins σ H s) (L : LamS X.env.scope scope)
    (hb : bindArgs (PySem.W.kla_fn "<lambda>" (X.env.qual ++ "<lambda>") params body scope (cloFrom X.env.cells scope.names []) pm (.ref c') ctv) ⟨[], []⟩ = pure [])
    (e0 : Env0 X.prog X.w X.K X.mg X.base Y outer s1 HZ) (nl : s1.heap.NoLimit) (hd : Y.handled = none) (hr : Room (k + 1) Y) (un : Un (frs X.stack) [] H HZ s.heap s1.heap)
    (at_ : s1.heap.get? f = some (PySem.W.kla_obj "<lambda>" (X.env.qual ++ "<lambda>") params body scope (cloFrom X.env.cells scope.names []) pm c' ctv)) (hc : HZ c' = some (CodeO c' (X.env.qual ++ "<lambda>")))
    (P : PE (lamCx X Y outer s1 HZ E scope f c') body tb) (ht : tb σ HZ Q) : codeAny (model X.prog X.w) Y (.call (.ref f) ⟨[], []⟩) (CR (L2.CX X.prog X.w) outer X.prog X.w HZ s1 Q E) s1 := by
  obtain ⟨oc, vs, t, g1, g2, g3⟩ := (e0.hok c' _ hc).1
  refine PySem.W.kla_callFunE hr.depth at_ rfl L.co L.gen rfl ⟨c', oc, vs, t, rfl, g1, g2, g3⟩ ?_
  rw [hb]
  refine wpAny_pure (wpAny_newFunctionEnv (fun y hy => (L.own y hy).2) (fun y hy => absurd hy (by simp)) (fun h1 ns same => ⟨nl.fresh _ same, ?_⟩) L.kind)
  have up : ∀ b o, s1.heap.get? b = some o → h1.get? b = some o := fun b o e => same.extBut b o (Nat.ne_of_lt (Heap.lt_size e)) (Heap.get?_push_of_some _ e)
  have J := lam_start2 (E := E) (f := f) (c' := c') (tk := s1.toks + ([] : List (Str × Value)).length) I L e0 hd un ns up
  show codeAny _ _ (.expr body (lamEnv X scope s1.heap.objs.size f c')) _ _
  refine PySem.W.kla_codeExpr (wpAny_mono (P.run [] _ _ HZ Q J ht) (fun v s2 z => ?_) fun _ _ z => z)
  obtain ⟨u, H2, J2, ru, qu⟩ := z
  exact ⟨u, H2, J2.os, J2.bare, J2.base, J2.hok, ru, qu⟩
/-- a() in the def that got the lambda -/
def tAct (f c' : Addr) (q : Str) (i : Nat) (tl : XK → Hp → VK → Prop) (W : WX) : TE := fun σZ HZ Q => σZ[i]? = some (some (.ref f)) ∧ HZ c' = some (CodeO c' q) ∧ tl (WE W σZ) HZ Q
end
/-- a def that is handed a lambda and calls it: TT is what it makes of the lambda's reading -/
def Gives (X : Cx) (N : List Str) (x : Str) (sc : Scope) (g : Addr) (cd : Value) (b : List Stmt) (a : Str) (q : Str) (TT : (XK → Hp → VK → Prop) → Hp → VK → Prop) : Prop :=
  ∀ (f c' : Addr) (s : Shared) (H : Hp) (Q : VK) (tl : XK → Hp → VK → Prop),
    (∀ (W : WX) (pn : List (Addr × Obj)) (xe : Value → Shared → Prop) (p1 p2 : Pos), Takes ((cxOf CX0 X.prog X.w X.K X.mg X.base N x sc g cd X.A X.stack s H fun _ _ _ => False).tr pn xe) W →
      PE ((cxOf CX0 X.prog X.w X.K X.mg X.base N x sc g cd X.A X.stack s H fun _ _ _ => False).tr pn xe) (.Call (.Name a p1) [] [] p2) (tAct f c' q 0 tl W)) →
    Room 1 (X.A.deeper (envOfC x sc s.heap.objs.size g cd)) → H c' = some (CodeO c' q) → TT tl H Q →
    ∃ t, PSs (cxOf CX0 X.prog X.w X.K X.mg X.base N x sc g cd X.A X.stack s H fun _ _ _ => False).nox b t ∧ t { nx := fun _ H' => Q .non H', rt := Q } (L2.start N [.ref f]) H
/-- x(lambda: body) -/
def tGive (T : List (Addr × Str)) (TT : (XK → Hp → VK → Prop) → Hp → VK → Prop) (t : XK → TE) : TE := fun σ H Q => Tabs T H ∧ ∀ H1, ExtN H H1 → Tabs T H1 → TT (fun E H' Q' => t E σ H' Q') H1 Q
section
variable {X : Cx}
theorem pe_give {T : List (Addr × Str)} {TT : (XK → Hp → VK → Prop) → Hp → VK → Prop} {x a : Str} {g c P : Addr} {k : Nat} {st : Stmt} {fd : FuncData} {N : List Str} {params : Arguments} {body : Expr} {scope : Scope} {t : XK → TE} {p lp pos : Pos}
    (hgd : X.A.guards = some []) (hr : Room (k + 2) X.A) (F : Fun X.K x x st g fd) (B : Binds X.K fd [a] []) (S : FnScope N [a] (defScope st)) (hN : N[0]? = some a) (hv : Vis (defScope st) a) (hg : Gl X x) (hm : X.mg x = some (.ref g)) (hk : PySem.W.keepIn X.K (.ref g) = true)
    (G : ∀ cd, Gives X N x (defScope st) g cd (defBody st) a (X.env.qual ++ "<lambda>") TT)
    (TB : TabB X.base X.mg c P) (hcode : X.env.code = .ref c) (hT : (P, X.env.qual ++ "<lambda>") ∈ T) (hu : ∀ p ∈ T, p.1 = P → p.2 = X.env.qual ++ "<lambda>") (L : LamS X.env.scope scope) (hdef : defaultsOf params X.env = ([], []))
    (hb : ∀ (q : Str) (cl : List (Str × Addr)) (pm cv ctv : Value), bindArgs (PySem.W.kla_fn "<lambda>" q params body scope cl pm cv ctv) ⟨[], []⟩ = pure [])
    (hbody : ∀ (Y : Around) (outer : List Env) (s : Shared) (H : Hp) (E : XK) (f c' : Addr), Y.guards = some [] → Room k (Y.deeper (lamEnv X scope s.heap.objs.size f c')) → PE (lamCx X Y outer s H E scope f c') body (t E))
    (hdb : (x == ("__debug__" : Str)) = false := by decide) (hda : (a == ("__debug__" : Str)) = false := by decide) (hca : (a == ("__classdict__" : Str)) = false := by decide) :
    PE X (.Call (.Name x p) [.Lambda params body scope lp] [] pos) (tGive T TT t) := by
  refine ⟨fun pins s σ H Q I ⟨ht, h⟩ => wpAny_Call_Name_kw (ld_glob I hg hm (PySem.W.callWith_K (h₀ := X.base) I.ok.mod.kin hk ?_ (by rfl) (by rfl)) hdb)⟩
  show wpAny _ _ (spliced ((false, eval (.Lambda params body scope lp) X.env) :: backTo pos (starEach [] X.env))) _ _ s
  refine Calls.spliced_cons (lam_make2 I TB hcode hT hu ht hdef (L.has I.ok) fun f c' pm ctv H1 s1 I1 eN T1 hf hfn hfr hco => Calls.spliced_nil ⟨I1.kIn, ?_⟩)
  obtain ⟨oc, od, kV, doc, pm', an, cdv, ct, osl, rfl, lk, hcd⟩ := F.ex
  have rc : codeAny (model X.prog X.w) X.A (.call (.ref g) ⟨[.ref f], []⟩) (CR CX0 X.stack X.prog X.w H1 s1 Q fun _ _ _ => False) s1 := by
    refine run_ofS (N := N) (ps := [a]) (us := [.ref f]) (vs := [.ref f]) lk hcd S hr I1.env0 (B s1 [.ref f] I1.kIn rfl) (.cons rfl .nil) rfl fun hr1 => ?_
    have hr0 : Room 1 (X.A.deeper (envOfC x (defScope st) s1.heap.objs.size g cdv)) := hr1.mono (by omega)
    have act : ∀ (W : WX) (pn : List (Addr × Obj)) (xe : Value → Shared → Prop) (p1 p2 : Pos), Takes ((cxOf CX0 X.prog X.w X.K X.mg X.base N x (defScope st) g cdv X.A X.stack s1 H1 fun _ _ _ => False).tr pn xe) W →
        PE ((cxOf CX0 X.prog X.w X.K X.mg X.base N x (defScope st) g cdv X.A X.stack s1 H1 fun _ _ _ => False).tr pn xe) (.Call (.Name a p1) [] [] p2) (tAct f c' (X.env.qual ++ "<lambda>") 0 (fun E H' Q' => t E σ H' Q') W) := by
      intro W pn xe p1 p2 tk
      refine ⟨fun pinsZ sZ σZ HZ QZ IZ hz => ?_⟩
      obtain ⟨z1, z2, z3⟩ := hz
      refine wpAny_Call_Name_kw (thn ((pe_var (pos := p1) (i := 0) hN hv hda hca).run pinsZ sZ σZ HZ (fun v H2 => v = .ref f ∧ H2 = HZ) IZ ⟨.ref f, z1, rfl, rfl⟩) fun u s2 ⟨v, H2, I2, r2, q2⟩ => ?_)
      obtain ⟨rfl, rfl⟩ := q2
      obtain rfl : u = Value.ref f := r2
      have stay := I2.base.keep f _ hf hfn hfr (fun z => nomatch (show f ∈ ([] : List Addr) from z))
      refine PySem.W.callWith_F0 ⟨_, _, _, _, stay⟩ ?_
      have run2 : codeAny (model X.prog X.w) (X.A.deeper (envOfC x (defScope st) s1.heap.objs.size g cdv)) (.call (.ref f) ⟨[], []⟩) (CR (L2.CX X.prog X.w) (envOfC x (defScope st) s1.heap.objs.size g cdv :: X.stack) X.prog X.w H2 s2 QZ (WE W σZ)) s2 :=
        lam_run (X := X) (k := k) (tb := t (WE W σZ)) I1 L (hb _ _ _ _ _) I2.env0 I2.nolimit hr1.hd hr1 I2.base stay z2 (hbody _ _ s2 H2 (WE W σZ) f c' hgd (hr1.deeper _)) z3
      refine wpAny_call (codeAny_mono run2 fun r s3 hq => ?_)
      cases r with
      | error e => exact passAt tk σZ pinsZ H2 s2 e s3 I2 hq
      | ok fl =>
        cases fl with
        | ret u => exact I2.after hq
        | next => exact False.elim hq
        | brk => exact False.elim hq
        | cont => exact False.elim hq
    obtain ⟨t', a1, a2⟩ := G cdv f c' s1 H1 Q (fun E H' Q' => t E σ H' Q') act hr0 hco (h H1 eN T1)
    exact ⟨t', a1.nox, a2⟩
  refine wpAny_call (codeAny_mono rc fun r s2 hq => ?_)
  cases r with
  | error e => exact (show False from hq).elim
  | ok fl =>
    cases fl with
    | ret u => exact I1.after hq
    | next => exact False.elim hq
    | brk => exact False.elim hq
    | cont => exact False.elim hq
end
end FR
set_option Elab.async false
set_option linter.all false
set_option maxRecDepth 100000
set_option maxHeartbeats 4000000
/-! own operators with anything on the right; repr of any datum; what a raising call lets out; keys of a dict of the module -/
namespace FR
open PySem PySem.Spec PyProof.Rows L2 TL
section
variable {X : Cx}
theorem tk0 {X : Cx} : Takes X (fun _ _ _ _ => False) := fun u s' h => by
  obtain ⟨_, _, _, _, _, _, _, _, _, _, _, _, _, _, _, _, z⟩ := h
  exact z.elim
/-- nothing is let out -/
theorem px0 : Passes (L2.CX X.prog X.w) X (fun _ _ _ => False) := passes_call tk0 fun _ _ _ _ h => h
/-- let out of the def itself -/
theorem pxE {E : XK} (hs : X.stack = X.env :: X.outer) (hf : X.env.frame = some X.env.locals) (hex : X.ex = []) {E1 : Value → Shared → Prop}
    (hx : X.xe = fun e s' => wpAny (model X.prog X.w) X.A (leaving X.env e) (fun _ s'' => L2.CX X.prog X.w X.outer X.H_0 X.s_0 E e s'') E1 s') : Passes (L2.CX X.prog X.w) X E := passes_call (takes_of hs hf hex hx) fun _ _ _ _ h => h
def known (T : String) (nm : String) : Bool := (fastLookup T (dunder nm)).isSome && (fastLookup T (dunderR nm)).isSome
theorem fills_any {T nm : String} (h : known T nm = true) : ∃ r z, fillsNumberSlot (.type T) nm = pure r ∧ typeLookup (.type T) (dunderR nm) = pure z := by
  unfold known at h
  rw [Bool.and_eq_true] at h
  obtain ⟨a, ha⟩ := Option.isSome_iff_exists.mp h.1
  obtain ⟨b, hb⟩ := Option.isSome_iff_exists.mp h.2
  have e1 : typeLookup (.type T) (dunder nm) = pure a := by rw [typeLookup_type, builtinLookup_eq_fast, ha]
  have e2 : typeLookup (.type T) (dunderR nm) = pure b := by rw [typeLookup_type, builtinLookup_eq_fast, hb]
  unfold fillsNumberSlot
  simp only [e1, e2, pure_bind]
  exact ⟨_, _, rfl, rfl⟩
variable {C g : Addr} {n : Nat} {sp : Sp} {E : XK} {CX : CXT}
/-- x op y, x of the class at C; its def lets something out -/
def rBinX (K : PySem.W.Frag) (C : Addr) (nm : String) (sp : Sp) (E : XK) : R2 := fun x y H Q => ∃ a dx fs, x = .ref a ∧ H a = some (.ins C dx fs) ∧
  ((∃ b dy gs, y = .ref b ∧ H b = some (.ins C dy gs) ∧ sp [x, y] H Q E) ∨ ∃ T, TyX K H y (.type T) ∧ known T nm = true ∧ PySem.W.subIn K (.type T) (.ref C) = some false ∧ sp [x, y] H (fun _ _ => False) E)
theorem op_binX {op : Operator} (hc : PySem.W.selfFirst X.K C = true) (hs : PySem.W.findIn X.K (.ref C) (PySem.dunder op.info.2) = some (some (.ref g))) (hR : PySem.W.findIn X.K (.ref C) (PySem.dunderR op.info.2) = some none) (hf : PySem.W.isFn X.K (.ref g) = true)
    (F : FnR X.prog X.w X.K X.mg X.base CX n g sp) (hr : Room n X.A) (hx : Passes CX X E) : OpR X (binaryOp op) (rBinX X.K C op.info.2 sp E) := by
  intro pins s σ H x y v u Q I rx ry h
  obtain ⟨a, dx, fs, rfl, ha, ⟨b, dy, gs, rfl, hb, q⟩ | ⟨T, ty, kn, sub, q⟩⟩ := h
  · exact op_binI hc hs hf F hr hx pins s σ H _ _ v u Q I rx ry ⟨a, dx, fs, b, dy, gs, rfl, rfl, ha, hb, q⟩
  cases (show v = Value.ref a from rx)
  obtain ⟨od, J⟩ := ins_inst I ha
  obtain ⟨Pk, kx, hP, _⟩ := L2.kit_of I ry ty
  have KI := I.kIn
  have look := kx.ty (model X.prog X.w) s.heap KI hP
  obtain ⟨cd, hcd, hm⟩ := PySem.W.any_some hc
  obtain ⟨rest, hm⟩ : ∃ rest, cd.mro = .ref C :: rest := by
    cases z : cd.mro with
    | nil => rw [z] at hm; cases hm
    | cons c r => rw [z, List.head?_cons] at hm; cases (beq_iff_eq.mp hm); exact ⟨r, rfl⟩
  obtain ⟨r, z0, hfill, hz0⟩ := fills_any kn
  have run : wpAny (model X.prog X.w) X.A (callSpecial? (.ref a) (PySem.dunder op.info.2) [u]) (fun _ _ => False) X.xe s := by
    refine PySem.W.special_fn KI J hs (beq_iff_eq.mp hf) (wpAny_mono (wpAny_call (run_fnR (us := [.ref a, u]) (vs := [.ref a, y]) F hr hx I (.cons rfl (.cons ry .nil)) q)) (fun w s' z => ?_) fun _ _ z => z)
    obtain ⟨_, _, _, _, z⟩ := z
    exact z
  have fin : ∀ {α : Type} (f : Option Value → Sem α) (Q' : α → Shared → Prop), wpAny (model X.prog X.w) X.A (tryMethod (.ref a) (PySem.dunder op.info.2) u >>= f) Q' X.xe s := fun f Q' => by
    refine wpAny_bind ?_
    unfold tryMethod
    exact wpAny_bind (wpAny_mono run (fun _ _ z => z.elim) fun _ _ z => z)
  unfold binaryOp
  refine wpAny_holding (wpAny_bind ?_)
  show wpAny _ _ (binaryOp1 op.info.2 (.ref a) u) _ _ _
  generalize op.info.2 = nm at *
  unfold binaryOp1
  refine wpAny_bind (J.type.here (wpAny_bind (look.here (wpAny_bind ((PySem.W.fills_K KI hcd hm hs).here ?_)))))
  have ne : (Value.ref C == Value.type T) = false := by simp
  simp only [ne, Bool.false_eq_true, if_false]
  rw [hfill]
  refine wpAny_bind (wpAny_pure ?_)
  cases r with
  | false =>
    simp only [Bool.and_false, Bool.false_eq_true, if_false, Bool.false_and, if_true, pure_bind]
    exact fin _ _
  | true =>
    simp only [Bool.and_self, Bool.not_false, if_true]
    refine wpAny_bind ((PySem.W.looks_subIn KI sub).here ?_)
    simp only [Bool.false_eq_true, if_false, Bool.not_false, Bool.and_self, if_true, pure_bind]
    refine wpAny_bind ?_
    unfold numberSlotInPython
    refine wpAny_bind ((PySem.W.looks_findIn KI hs).here ?_)
    refine wpAny_bind ?_
    refine wpAny_pure ?_
    refine wpAny_bind ((PySem.W.looks_findIn KI hR).here ?_)
    refine wpAny_bind (wpAny_pure ?_)
    simp only [Bool.or_false, if_true, Bool.true_or]
    refine wpAny_pure ?_
    simp only [if_true, pure_bind, Bool.not_false]
    rw [hz0]
    exact wpAny_bind (wpAny_pure (fin _ _))
/-- x op y (a comparison), x of the class at C, anything on the right -/
def rCmpX (K : PySem.W.Frag) (C : Addr) (sp : Sp) (E : XK) : R2 := fun x y H Q => ∃ a dx fs t, x = .ref a ∧ H a = some (.ins C dx fs) ∧ TyX K H y t ∧ PySem.W.notFirst K C t = true ∧ sp [x, y] H Q E
theorem op_cmpX {op : CmpOp} (hop : ∀ a b, compareOp op a b = richCompare op a b) (hs : PySem.W.findIn X.K (.ref C) (cmpInfo op).2.1 = some (some (.ref g))) (hf : PySem.W.isFn X.K (.ref g) = true) (F : FnR X.prog X.w X.K X.mg X.base CX n g sp)
    (hr : Room n X.A) (hx : Passes CX X E) : OpR X (compareOp op) (rCmpX X.K C sp E) := by
  intro pins s σ H x y v u Q I rx ry h
  obtain ⟨a, dx, fs, t, rfl, ha, ty, hn, q⟩ := h
  cases (show v = Value.ref a from rx)
  obtain ⟨od, J⟩ := ins_inst I ha
  obtain ⟨Pk, kx, hP, _⟩ := L2.kit_of I ry ty
  obtain ⟨m, hF⟩ := I.fr
  rw [hop]
  refine PySem.W.cmp_K (op := op) (tb := t) hr.units0 hF I.ok.mod.kin J (kx.ty _ _ I.kIn hP) hn hs hf ?_
  refine wpAny_mono (wpAny_call (run_fnR (us := [.ref a, u]) (vs := [.ref a, y]) F hr hx I (.cons rfl (.cons ry .nil)) q)) (fun w s' z => ?_) fun _ _ x => x
  obtain ⟨z', H', I', rz, qz⟩ := z
  exact SlX.cmpback rz ⟨z', H', I', rz, qz⟩
end
/-! ### repr -/
section
variable {X : Cx}
/-- repr of data, of a scalar too -/
def rReprS : List V → Hp → VK → Prop := fun xs H Q => rReprQ xs H Q ∨ (∃ i : Int, xs = [.int i] ∧ i.natAbs.log2 < 1920 ∧ Q (.str (PyData.shown (.int i))) H) ∨ (∃ b : Bool, xs = [.bl b] ∧ Q (.str (PyData.shown (.bool b))) H) ∨ (xs = [.non] ∧ Q (.str (PyData.shown .none)) H) ∨
  ∃ t : Str, xs = [.str t] ∧ (PyData.shown (.str t)).length ≤ sizeLine ∧ Q (.str (PyData.shown (.str t))) H
theorem call_reprX (hgd : X.A.guards = some []) (hu : X.A.units + 65 < cLine) : CallR X (.builtin "repr") rReprS := fun pins s σ H xs us Q I r h => by
  have fin : ∀ (t : Str) (u : Tok), Q (.str t) H → EP X pins σ Q (.str t u) { s with toks := s.toks + 1 } := fun t u q => ⟨.str t, H, I.tok _, ⟨_, rfl⟩, q⟩
  rcases h with h | ⟨i, rfl, hi, q⟩ | ⟨b, rfl, q⟩ | ⟨rfl, q⟩ | ⟨t, rfl, ht, q⟩
  · exact call_reprQ hgd hu pins s σ H xs us Q I r h
  · obtain ⟨u, rfl, k, rfl⟩ := r.one
    exact PySem.P.repr_of_int hi (fin _ _ q)
  · obtain ⟨u, rfl, ru⟩ := r.one
    cases (show u = Value.bool b from ru)
    exact PySem.P.repr_of_bool (fin _ _ (by cases b <;> exact q))
  · obtain ⟨u, rfl, ru⟩ := r.one
    cases (show u = Value.none from ru)
    exact PySem.P.repr_of_none (fin _ _ q)
  · obtain ⟨u, rfl, k, rfl⟩ := r.one
    exact PySem.P.repr_of_str (fin _ _ q) ht
end
/-! ### the keys of a dict of the module -/
theorem keys_miss {z : Str} : ∀ {ks : List Str} {l : List DictEntry}, Vals (ks.map V.str) (l.map (·.key)) → z ∉ ks → l.find? (·.key.isStr z) = none ∧ l.any (·.refKey) = false
  | [], l, h, _ => by
    cases l with
    | nil => exact ⟨rfl, rfl⟩
    | cons e r => cases h
  | k :: ks, l, h, hz => by
    cases l with
    | nil => cases h
    | cons e r =>
      cases h with
      | cons a b =>
        obtain ⟨t, ht⟩ := (show ∃ t, e.key = Value.str k t from a)
        obtain ⟨h1, h2⟩ := keys_miss b fun m => hz (List.mem_cons_of_mem _ m)
        have nk : k ≠ z := fun e => hz (by rw [e]; exact List.mem_cons_self)
        refine ⟨?_, ?_⟩
        · rw [List.find?_cons_of_neg (by rw [ht]; simp [Value.isStr, nk])]
          exact h1
        · rw [List.any_cons, h2]
          simp [DictEntry.refKey, ht]
theorem ns_miss {K : PySem.W.Frag} {d : Addr} {c : Value} {od : Option Addr} {es : Array DictEntry} {ep : Nat} {sl : Array (Option Value)} {ks : List Str} {z : Str} (hl : K.lookup d = some ⟨c, od, .dict es ep, sl⟩) (hv : Vals (ks.map V.str) (es.toList.map (·.key))) (hz : z ∉ ks) : PySem.W.nsIn K d z = some none := by
  obtain ⟨h1, h2⟩ := keys_miss hv hz
  unfold PySem.W.nsIn
  rw [hl]
  simp only [h1, h2, Bool.false_eq_true, if_false]
end FR
set_option Elab.async false
set_option linter.all false
set_option maxRecDepth 100000
/-! «x in texts» for anything; a list of anything beside the empty list -/
namespace FR
open PySem PySem.Spec PyProof.Rows L2 TL PySem.SeqAt
section
variable {X : Cx}
/-- what «v in the texts ws» gives -/
def InT (K : PySem.W.Frag) (H : Hp) (v : V) (ws : List Str) (r : Bool) : Prop := (flatV v = true ∧ inV v (ws.map V.str) = r) ∨ (∃ d, Dp K H v d ∧ SeqAt.shaped d = true ∧ SeqAt.shaped (.list (ws.map .str)) = true ∧ ((ws.map PyData.str).any fun z => PyData.eqv z d) = r) ∨
  ∃ (a : Addr) (kvs : List (Key × V)), v = .ref a ∧ H a = some (.dK kvs) ∧ false = r
def rInT (K : PySem.W.Frag) : R2 := fun x y H Q => ∃ (p : Addr) (ws : List Str) (r : Bool), y = .ref p ∧ SqL K H p (ws.map V.str) ∧ InT K H x ws r ∧ Q (.bl r) H
theorem op_inT (hu : X.A.units + 65 < cLine) : OpR X (compareOp .In) (rInT X.K) := by
  intro pins s σ H x y v u Q I rx ry h
  obtain ⟨p, ws, r, rfl, hp, ⟨hf, rfl⟩ | ⟨d, hd, s1, s2, rfl⟩ | ⟨a, kvs, rfl, ha, rfl⟩, q⟩ := h
  · exact op_in_seq pins s σ H x _ v u Q I rx ry ⟨p, _, rfl, .inl hp, hf, flat_strs ws, q⟩
  · exact op_inD hu pins s σ H x _ v u Q I rx ry ⟨d, _, hd, .lst hp (dpAll_strs ws), s1, s2, q⟩
  · cases (show v = Value.ref a from rx)
    cases (show u = Value.ref p from ry)
    obtain ⟨_, _, vs, kv, o, es, ep, e, hx, hd, _, _, _⟩ := (show ObjOk X.prog X.w H s.heap a (.dK _) from I.hok _ _ ha)
    obtain ⟨its, rv, hl, _⟩ := I.list hp
    refine in_listAt (fun _ => false) hl.isList (fun z hz => ?_) ⟨.bl false, H, I, ?_, q⟩
    · obtain ⟨x, t, rfl⟩ := vals_strs rv z (by simpa using hz)
      exact eqAt_str_dict x t e hx.1 hd (by show X.A.units + 1 < cLine; omega)
    · show Value.bool _ = Value.bool false
      simp
def rNil (K : PySem.W.Frag) (neg : Bool) : R2 := fun x y H Q => ∃ (p q : Addr) (xs : List V), x = .ref p ∧ y = .ref q ∧ SqL K H p xs ∧ SqL K H q [] ∧ Q (.bl (neg != xs.isEmpty)) H
theorem op_eqNil (hu : X.A.units + 65 < cLine) : OpR X (compareOp .Eq) (rNil X.K false) := by
  intro pins s σ H x y v u Q I rx ry h
  obtain ⟨p, q, xs, rfl, rfl, hp, hq, z⟩ := h
  cases (show v = Value.ref p from rx)
  cases (show u = Value.ref q from ry)
  obtain ⟨its, rv, hl, _⟩ := I.list hp
  obtain ⟨its2, rv2, hl2, _⟩ := I.list hq
  cases rv2
  cases rv with
  | nil => exact SeqAt.eq_listAt (e := fun _ => true) hl.isList hl2.isList rfl (by omega) (fun j h1 _ => absurd h1 (by simp)) ⟨.bl true, H, I, rfl, z⟩
  | cons a b => exact SeqAt.eq_list_lengthsAt hl.isList hl2.isList (by simp) (by omega) ⟨.bl false, H, I, rfl, z⟩
theorem op_neNil (hu : X.A.units + 65 < cLine) : OpR X (compareOp .NotEq) (rNil X.K true) := by
  intro pins s σ H x y v u Q I rx ry h
  obtain ⟨p, q, xs, rfl, rfl, hp, hq, z⟩ := h
  cases (show v = Value.ref p from rx)
  cases (show u = Value.ref q from ry)
  obtain ⟨its, rv, hl, _⟩ := I.list hp
  obtain ⟨its2, rv2, hl2, _⟩ := I.list hq
  cases rv2
  cases rv with
  | nil => exact RcNeAt.lists (e := fun _ => true) hl.isList hl2.isList rfl (by omega) (fun j h1 _ => absurd h1 (by simp)) X.prog X.w _ _ ⟨.bl false, H, I, rfl, z⟩
  | cons a b => exact RcNeAt.lists_lengths hl.isList hl2.isList (by simp) (by omega) X.prog X.w _ _ ⟨.bl true, H, I, rfl, z⟩
end
end FR
set_option Elab.async false
set_option linter.all false
set_option maxRecDepth 100000
set_option maxHeartbeats 2000000
/-! the end of a row whose defs make lambdas, for a promise that knows that no repr is under way -/
namespace FR
open PySem PySem.Spec PyProof.Rows L2 TL LamX
/-- the script (where it is not the module's) and the empty tables -/
def hStart (a : Addr) (o : HO) (own : Bool) (ts : List Addr) : Hp := fun b => if b ∈ ts then some (.tbl #[]) else if b = a ∧ own = true then some o else none
section
variable {a : Addr} {o : HO} {own : Bool} {ts : List Addr}
theorem hStart.tab {b : Addr} (h : b ∈ ts) : hStart a o own ts b = some (.tbl #[]) := if_pos h
theorem hStart.script (h : a ∉ ts) (w : own = true) : hStart a o own ts a = some o := (if_neg h).trans (if_pos ⟨rfl, w⟩)
theorem hStart.what {b : Addr} {u : HO} (h : hStart a o own ts b = some u) : (b ∈ ts ∧ u = .tbl #[]) ∨ (b ∉ ts ∧ b = a ∧ own = true ∧ u = o) := by
  unfold hStart at h
  split at h
  · rename_i m
    exact .inl ⟨m, (Option.some.inj h).symm⟩
  · rename_i m
    split at h
    · rename_i e
      exact .inr ⟨m, e.1, e.2, (Option.some.inj h).symm⟩
    · cases h
end
abbrev oTab : Obj := { cls := .none, data := .fields #[] }
theorem law_callTG {P : Program} {w : World} {K : PySem.W.Frag} {mg mb : Str → Option Value} {k : Nat} {fa a : Addr} {cs : List (Addr × Addr)} {sp : Sp} {s1 : Shared} {vs : List Value} {ns : List Int}
    (KX : K.In s1.heap) (hns : s1.heap.Ns mainGlobals mg) (hb : s1.heap.Ns builtinsNs mb) (hbb : ∀ x : Str, x ≠ "__name__" → mb x = bootBuiltins x) (hlim : s1.heap.NoLimit) (hg : s1.gens = #[])
    (hT : ∀ p ∈ cs, s1.heap.get? p.2 = some oTab) (nT : ∀ p ∈ cs, K.lookup p.2 = none) (C : ∀ p ∈ cs, PySem.W.CodeHd s1.heap p.1 p.2)
    (hbm : ∃ (bm : Addr) (ob : Obj), mg "__builtins__" = some (.ref bm) ∧ bm ≠ builtinsNs ∧ s1.heap.get? bm = some ob ∧ ob.cls = .type "module" ∧ ob.dict = some builtinsNs ∧ ob.data = .plain)
    (ha : s1.heap.get? a = some { cls := .type "list", data := .seq vs.toArray }) (hi : IntsAre vs ns) (hl : ns.length ≤ sizeLine) (hr : Room k callerA)
    (F : ∀ base : Heap, K.In base → base.Ns mainGlobals mg → (∀ p ∈ cs, TabB base mg p.1 p.2) → FnG P w K mg base CX0 k fa sp)
    (hsp : ∀ H : Hp, (∀ p ∈ cs, H p.2 = some (.tbl #[])) → SqL K H a (ns.map V.int) → sp [.ref a] H (fun v _ => v = .bl true) fun _ _ _ => False) :
    codeAny (model P w) callerA (.call (.ref fa) ⟨[.ref a], []⟩) (fun r s' => r = .ok (.ret (.bool true)) ∧ OldK s1.heap s'.heap ∧ s'.os = s1.os ∧ AllBare s'.gens) s1 := by
  have rv := vals_ints hi
  have lv := hi.length
  have isT : ∀ b ∈ cs.map (·.2), s1.heap.get? b = some oTab := fun b m => by
    obtain ⟨p, hp, rfl⟩ := List.mem_map.mp m
    exact hT p hp
  have aT : a ∉ cs.map (·.2) := fun m => by
    have := isT a m
    rw [ha] at this
    cases congrArg Obj.data (Option.some.inj this)
  obtain ⟨own, how⟩ : ∃ own, own = (K.lookup a).isNone := ⟨_, rfl⟩
  obtain ⟨H, hH⟩ : ∃ H, hStart a (.frz { cls := .type "list", data := .seq vs.toArray } (.lst (ns.map V.int))) own (cs.map (·.2)) = H := ⟨_, rfl⟩
  have tabs : ∀ b ∈ cs.map (·.2), H b = some (.tbl #[]) := fun b m => by rw [← hH]; exact hStart.tab m
  have what : ∀ {b : Addr} {u : HO}, H b = some u → (b ∈ cs.map (·.2) ∧ u = .tbl #[]) ∨ (b ∉ cs.map (·.2) ∧ b = a ∧ own = true ∧ u = .frz { cls := .type "list", data := .seq vs.toArray } (.lst (ns.map V.int))) := fun {b u} h => hStart.what (by rw [hH]; exact h)
  have hS : SqL K H a (ns.map V.int) := by
    cases hk : K.lookup a with
    | some o =>
      cases ha.symm.trans (KX a o hk)
      exact .inr ⟨_, vs.toArray, _, hk, rfl, rfl, rfl, by rw [List.size_toArray, lv]; exact hl, by simpa using rv⟩
    | none => exact .inl (.inr ⟨_, by rw [← hH]; exact hStart.script aT (by rw [how, hk]; rfl)⟩)
  have hok : HOk P w H s1.heap := fun b u z => by
    rcases what z with ⟨m, rfl⟩ | ⟨_, rfl, _, rfl⟩
    · exact isT b m
    · exact ⟨ha, by rw [List.length_map]; exact hl, vs, _, rv, ha⟩
  have apart : ∀ {b : Addr} {ob : Obj}, s1.heap.get? b = some ob → (∀ l n, ob.data ≠ .seq l n) → ob.data ≠ .fields #[] → H b = none := fun {b ob} e n1 n2 => by
    cases q : H b with
    | none => rfl
    | some u =>
      rcases what q with ⟨m, _⟩ | ⟨_, rfl, _, _⟩
      · cases (isT b m).symm.trans e
        exact (n2 rfl).elim
      · cases ha.symm.trans e
        exact (n1 _ _ rfl).elim
  have isD : ∀ {b : Addr} {ob : Obj} {es : Array DictEntry} {ep : Nat}, s1.heap.get? b = some ob → ob.data = .dict es ep → H b = none := fun e d => apart e (by rw [d]; exact fun _ _ z => nomatch z) (by rw [d]; exact fun z => nomatch z)
  have nsH : ∀ {b : Addr} {m : Str → Option Value}, s1.heap.Ns b m → (hidT s1.heap H).Ns b m := fun ⟨o, es, ep, e, d, r⟩ => ⟨o, es, ep, hidT_get e (isD e d), d, r⟩
  have KH : K.In (hidT s1.heap H) := fun b o e => hidT_get (KX b o e) (by
    cases q : H b with
    | none => rfl
    | some u =>
      rcases what q with ⟨m, _⟩ | ⟨_, rfl, w0, _⟩
      · obtain ⟨p, hp, rfl⟩ := List.mem_map.mp m
        cases (nT p hp).symm.trans e
      · rw [how, e] at w0
        cases w0)
  have md : Mod K mg (hidT s1.heap H) := ⟨KH, nsH hns, ⟨mb, nsH hb, hbb⟩, hlim.elim fun mc hc => ⟨mc, nsH hc.1, hc.2⟩⟩
  have en : Env0 P w K mg (hidT s1.heap H) callerA [] s1 H := ⟨rfl, md, fun _ _ e => of_hidT e, Nat.le_of_eq (hidT_size ..), True.intro, fun _ hb => (List.not_mem_nil hb).elim, hok, AllBare.of_eq hg⟩
  have tb : ∀ p ∈ cs, TabB (hidT s1.heap H) mg p.1 p.2 := fun p hp => by
    refine ⟨?_, ?_, fun z => ?_⟩
    · obtain ⟨oc, us, file, tf, flags, tg, inF, text, tt, e1, r1, r2, r3, r⟩ := C p hp
      refine ⟨oc, us, file, tf, flags, tg, inF, text, tt, hidT_get e1 (apart e1 (by rw [r2]; exact fun _ _ z => nomatch z) fun z => ?_), r1, r2, r3, r⟩
      rw [r2] at z
      cases z
      simp at r3
    · obtain ⟨bm, ob, b1, b2, b3, b4, b5, b6⟩ := hbm
      refine ⟨bm, ob, b1, b2, fun z => ?_, fun z => ?_, hidT_get b3 (apart b3 (by rw [b6]; exact fun _ _ z => nomatch z) (by rw [b6]; exact fun z => nomatch z)), b4, b5, b6⟩
      · obtain ⟨og, es, ep, e, d, _⟩ := hns
        rw [z] at b3
        cases e.symm.trans b3
        rw [b6] at d
        cases d
      · rw [z] at b3
        cases (hT p hp).symm.trans b3
        cases b6
    · obtain ⟨og, es, ep, e, d, _⟩ := hns
      rw [z] at e
      cases (hT p hp).symm.trans e
      cases d
  refine codeAny_mono (F _ KH (nsH hns) tb callerA [] s1 H [.ref a] [.ref a] _ _ rfl hr en (.cons rfl .nil) (hsp H (fun p hp => tabs _ (List.mem_map.mpr ⟨p, hp, rfl⟩)) hS)) fun r s' h => ?_
  match r, h with
  | .error e, h => exact h.elim
  | .ok .next, h => exact h.elim
  | .ok .brk, h => exact h.elim
  | .ok .cont, h => exact h.elim
  | .ok (.ret u), h =>
    obtain ⟨v, H', os, bare, un, hok', rr, q⟩ := h
    cases (show v = .bl true from q)
    cases (show u = Value.bool true from rr)
    have same : ∀ b ob, b ∉ cs.map (·.2) → s1.heap.get? b = some ob → s'.heap.get? b = some ob := fun b ob nb e => by
      cases z : H b with
      | none => exact un.keep b ob e z (fun y => (List.not_mem_nil y).elim) List.not_mem_nil
      | some u =>
        rcases what z with ⟨m, _⟩ | ⟨_, rfl, _, rfl⟩
        · exact (nb m).elim
        · cases ha.symm.trans e
          exact (hok' b _ (un.frzs b _ _ z)).1
    have more : ∀ p ∈ cs, ∃ ms : Array Value, s'.heap.get? p.2 = some { cls := .none, data := .fields ms } := fun p hp => by
      obtain ⟨ms, z⟩ := un.tbls p.2 #[] (tabs _ (List.mem_map.mpr ⟨p, hp, rfl⟩))
      exact ⟨_, hok' p.2 _ z⟩
    refine ⟨rfl, ⟨fun b ob e => ?_, fun b ob e => ?_⟩, os, bare⟩
    · by_cases m : b ∈ cs.map (·.2)
      · obtain ⟨p, hp, rfl⟩ := List.mem_map.mp m
        obtain ⟨ms, z⟩ := more p hp
        cases (hT p hp).symm.trans e
        exact .inr (.inl ⟨((C p hp).tab (hT p hp)).isCodeTable, rfl, #[], ms, rfl, by rw [Array.empty_append]; exact z⟩)
      · exact .inl (same b ob m e)
    · by_cases m : b ∈ cs.map (·.2)
      · obtain ⟨p, hp, rfl⟩ := List.mem_map.mp m
        obtain ⟨ms, z⟩ := more p hp
        exact ⟨_, z⟩
      · exact ⟨ob, same b ob m e⟩
/-- what is known of the law's promise at the heap h -/
def LawG (l : PySem.W.OpenLaw) (w : World) (K : PySem.W.Frag) (k n : Nat) (mg : Str → Option Value) (fa : Addr) (h : Heap) : Prop :=
  ∃ (cs : List (Addr × Addr)) (sp : Sp), (∀ p ∈ cs, h.get? p.2 = some oTab) ∧ (∀ p ∈ cs, K.lookup p.2 = none) ∧ (∀ p ∈ cs, PySem.W.CodeHd h p.1 p.2) ∧
    (∀ (H : Hp) (a : Addr) (ns : List Int), ns.length ≤ n → (∀ p ∈ cs, H p.2 = some (.tbl #[])) → SqL K H a (ns.map V.int) → sp [.ref a] H (fun v _ => v = .bl true) fun _ _ _ => False) ∧
    ∀ base : Heap, K.In base → base.Ns mainGlobals mg → (∀ p ∈ cs, TabB base mg p.1 p.2) → FnG l.prog w K mg base CX0 k fa sp
theorem walk_ofTG {l : PySem.W.OpenLaw} {n k : Nat} {q : Program} {loose : List Str} {XP : (Str → Option Value) → Heap → Prop} {YP : World → Heap → Prop} {d : DefRec} {K : Params → PySem.W.Frag}
    (hn : l.most = some n) (hn2 : n ≤ sizeLine) (hdf : d.params.defaults = []) (hr : Room k callerA) (hY : ∀ (w : World) (h : Heap), YP w h → (K w.params).In h)
    (F : ∀ (w : World) (mg : Str → Option Value) (fa : Addr) (h : Heap), YP w h → (K w.params).In h → h.Ns mainGlobals mg → mg d.name = some (.ref fa) → LawG l w (K w.params) k n mg fa h) :
    PySem.W.WalkO q loose XP YP l.row.toRowW d [] (fun f vs => PySem.call f vs) := by
  refine Att.attach_call hn hdf fun w s0 s1 mg mb fa o pm cd doc a vs ns G Y ho hd hcd hmg hobj hints hlen hg => ?_
  have KX := hY w _ Y
  obtain ⟨cs, sp, hT, nT, C, hsp, hF⟩ := F w mg fa _ Y KX G.T.g hmg
  exact law_callTG KX G.T.g G.T.b G.T.builtins G.T.nolimit hg hT nT C G.T.bmain hobj hints (Nat.le_trans hlen hn2) hr hF fun H hH hS => hsp H a ns hlen hH hS
/-- a def whose code object is known: it makes lambdas -/
structure FunL (K : PySem.W.Frag) (x qual : Str) (st : Stmt) (f : Addr) (c : Addr) : Prop where
  ex : ∃ (oc : Value) (od : Option Addr) (kV doc pm : Value) (an : Option Addr) (ct : Value) (osl : Array (Option Value)), K.lookup f = some ⟨oc, od, .func (PySem.W.fnOf x qual (defArgs st) (defBody st) (defScope st) .none kV doc pm an (.ref c) ct), osl⟩
  cd : PySem.W.codeIn K (.ref c) qual = true
theorem okGC0 {P : Program} {w : World} {K : PySem.W.Frag} {mg : Str → Option Value} {base : Heap} {k : Nat} {f c : Addr} {sp : Sp} {x qual : Str} {st : Stmt} {fd : FuncData} {N ps : List Str} (L : FunL K x qual st f c) (F : L2.Fun K x qual st f fd) (S : FnScope N ps (defScope st)) (B : Binds K fd ps []) (hlen : ∀ vs H Q E, sp vs H Q E → vs.length = ps.length)
    (hbody : ∀ (A : Around) (outer : List Env) (s : Shared) (H : Hp) (vs : List V) (Q : VK) (E : XK), A.guards = some [] → Room k (A.deeper (envOfC qual (defScope st) s.heap.objs.size f (.ref c))) → sp vs H Q E →
      ∃ t, PSs (cxOf CX0 P w K mg base N qual (defScope st) f (.ref c) A outer s H E).nox (defBody st) t ∧ t { nx := fun _ H' => Q .non H', rt := Q } (start N vs) H) : FnG P w K mg base CX0 (k + 1) f sp := by
  intro A outer s H us vs Q E hg hr e0 r hsp
  obtain ⟨oc, od, kV, doc, pm, an, cdv, ct, osl, rfl, lk, hcd⟩ := F.ex
  obtain ⟨oc', od', kV', doc', pm', an', ct', osl', lk'⟩ := L.ex
  cases lk.symm.trans lk'
  have hv : vs.length = ps.length := hlen _ _ _ _ hsp
  have hu : us.length = ps.length := by rw [← r.length]; exact hv
  have KI : K.In s.heap := e0.mod.kin.keeps fun b o e => (e0.bs b o e).1
  have b0 := B s us KI (by rw [List.append_nil]; exact hu)
  rw [List.append_nil] at b0
  refine StX.run_bnd lk hcd S hr e0 (G := fun xs H2 => xs = vs ∧ H2 = H) (fun A' Ex Q' h => ?_) fun s2 H2 xs ⟨ex, eH⟩ hr' => ?_
  · exact b0 _ _ _ _ (h s H vs us e0 Un.refl rfl (fun _ _ z => z) r hv ⟨rfl, rfl⟩)
  · subst ex eH
    obtain ⟨t, a, b⟩ := hbody A outer s2 _ _ Q E hg hr' hsp
    exact ⟨t, a.nox, b⟩
end FR
set_option Elab.async false
set_option linter.all false
set_option maxRecDepth 100000
/-! a classmethod without arguments -/
namespace ClX
open PySem PySem.Spec PyProof.Rows L2
section
variable {X : Cx} {C g p : Addr} {mc : Value} {m : Str} {o : Expr} {ta : TE} {CX : CXT} {k : Nat} {sp : Sp} {E : XK} {apos pos : Pos}
theorem pe_cmeth0 {pl : Sem Bool} (he : PE X o ta) (r : CRead X.K C mc) (c : CMet X.K C mc m p g) (F : FnR X.prog X.w X.K X.mg X.base CX k g sp) (hr : Room k X.A) (hx : Passes CX X E)
    (ht : eval (.Call (.Attribute o m apos) [] [] pos) X.env = (do
      let ov ← eval o X.env
      standAt apos.atName
      let (f, first) ← holding [ov] (getMethod ov m pl)
      callWith pos f first (backTo pos (starEach [] X.env)) (backToKw pos (keywordEach [] X.env))) := by rfl) :
    PE X (.Call (.Attribute o m apos) [] [] pos) (tCMeth C sp E ta tNil) := by
  refine ⟨fun pins s σ H Q I h => ?_⟩
  refine PySem.W.methodCall_KW (pl := pl) (thn (he.run pins s σ H _ I h) fun u s1 ⟨x, H1, I1, rx, ex, q⟩ => ?_) ht
  subst ex
  obtain rfl : u = Value.ref C := rx
  refine getmethcm_ok I1 r c fun s2 I2 => ?_
  exact PySem.W.callWith_M0 (first := []) ⟨pin_at I2, I2.kIn⟩ c.fi (run_cm F hr hx I2 .nil q)
end
end ClX
set_option Elab.async false
set_option linter.all false
set_option maxRecDepth 100000
set_option maxHeartbeats 1000000
/-! zip of a tuple and a list (any two iterators that are asked by nextOf) -/
namespace FR
open PySem
open PySem.Sem (wp)
/-- an iterator at it over what stands at l, asked by nextOf -/
structure Nx (prog : Program) (w : World) (it l : Addr) (xs : Array Value) (St : Nat → Heap → Prop) : Prop where
  one : ∀ (A : Around) (E Q : Value → Shared → Prop) (s : Shared) (k : Nat) (x : Value), St k s.heap → xs[k]? = some x → (∀ g, St (k + 1) g → Heap.SameBut it s.heap g → Q x { s with heap := g }) → wpAny (model prog w) A (Builtin.SmallTypes.nextOf (.ref it)) Q E s
  fin : ∀ (A : Around) (E Q : Value → Shared → Prop) (s : Shared) (k : Nat), A.handled = none → St k s.heap → xs[k]? = none → (∀ g e, Heap.ExtBut it s.heap g → (∃ o, g.get? e = some o ∧ o.cls = .type "StopIteration") → E (.ref e) { s with heap := g }) →
    wpAny (model prog w) A (Builtin.SmallTypes.nextOf (.ref it)) Q E s
  frame : ∀ k h g b, St k h → Heap.ExtBut b h g → it ≠ b → l ≠ b → St k g
section
variable {prog : Program} {w : World}
theorem nx_tup {it l : Addr} {xs : Array Value} (ne : l ≠ it) : Nx prog w it l xs (fun k h => h.IsTupleIter it l k ∧ h.IsTuple l xs) where
  one := fun A E Q s k x st e q => RZ.nextOf_tuple_item st.1 st.2 e fun g z sb => q g ⟨z, st.2.extBut sb.extBut ne⟩ sb
  fin := fun A E Q s k hh st e q => RZ.nextOf_tuple_end hh st.1 st.2 e q
  frame := fun k h g b st x n1 n2 => ⟨st.1.extBut x n1, st.2.extBut x n2⟩
theorem nx_lst {it l : Addr} {xs : Array Value} (ne : l ≠ it) : Nx prog w it l xs (fun k h => h.IsListIter it l k ∧ h.IsList l xs) where
  one := fun A E Q s k x st e q => wpAny_nextOf_list_item st.1 st.2 e fun g z sb => q g ⟨z, st.2.extBut sb.extBut ne⟩ sb
  fin := fun A E Q s k hh st e q => wpAny_nextOf_list_end hh st.1 st.2 e q
  frame := fun k h g b st x n1 n2 => ⟨st.1.extBut x n1, st.2.extBut x n2⟩
/-- a zip that stands between two turns -/
structure ZAt (h : Heap) (z TI TO i1 i2 : Addr) (f : Value) (a b : Value) : Prop where
  zp : IsZip h z TI TO f
  ti : IsPair h TI (.ref i1) (.ref i2)
  to : IsPair h TO a b
variable {A : Around} {E : Value → Shared → Prop} {s : Shared} {z TI TO i1 i2 l1 l2 : Addr} {k1 k2 : Nat} {xs ys : Array Value} {x y a b : Value} {S1 S2 : Nat → Heap → Prop}
theorem zg_item {Q : Value → Shared → Prop} (D : ZipApart z TI TO i1 i2 l1 l2) (N1 : Nx prog w i1 l1 xs S1) (N2 : Nx prog w i2 l2 ys S2) (Z : ZAt s.heap z TI TO i1 i2 .none a b)
    (h1 : S1 k1 s.heap) (h2 : S2 k2 s.heap) (ex : xs[k1]? = some x) (ey : ys[k2]? = some y) (big : z < s.heap.objs.size ∧ l1 < s.heap.objs.size ∧ l2 < s.heap.objs.size ∧ i1 < s.heap.objs.size ∧ i2 < s.heap.objs.size)
    (q : ∀ g, ZAt g z TI TO i1 i2 (rawInt s.heap.objs.size) x y → S1 (k1 + 1) g → S2 (k2 + 1) g → IsPair g s.heap.objs.size x y →
      (∀ c o, c ≠ z → c ≠ TO → c ≠ i1 → c ≠ i2 → s.heap.get? c = some o → g.get? c = some o) → Q (.ref s.heap.objs.size) { s with heap := g }) :
    wpAny (model prog w) A (Builtin.«zip.__next__» ⟨[.ref z], []⟩) (fun fin s' => ∃ v, fin = .done (.ret v) ∧ Q v s') E s := by
  obtain ⟨zp, ti, to⟩ := Z
  obtain ⟨bz, bl1, bl2, bi1, bi2⟩ := big
  show wpAny _ _ (field (.ref z) 2 >>= _) _ _ _; refine wpAny_bind (wpAny_field zp rfl (x := .bool false) rfl ?_)
  show wpAny _ _ (field (.ref z) 3 >>= _) _ _ _; refine wpAny_bind (wpAny_field zp rfl (x := .ref TI) rfl ?_)
  refine wpAny_bind (wpAny_seqItems ti rfl ?_)
  show wpAny _ _ (Builtin.SmallTypes.ownedTupleIsFree (.ref z) >>= _) _ _ _; refine wpAny_bind ?_
  unfold Builtin.SmallTypes.ownedTupleIsFree; refine wpAny_bind (wpAny_field zp rfl (x := .none) rfl (wpAny_pure ?_))
  simp only [if_true]; refine wpAny_bind (wpAny_rule ?_)
  refine wpAny_bind (wpAny_field zp rfl (x := .ref TO) rfl ?_); refine wpAny_bind (wpAny_setField_rec zp (by simp) fun g1 z1 s1 => ?_)
  have z1 : IsZip g1 z TI TO .ellipsis := z1
  refine wpAny_bind ?_; simp only [List.zipIdx_cons, List.zipIdx_nil, List.forIn_cons, List.forIn_nil]
  refine wpAny_bind (wpAny_bind (wpAny_onRaise ?_)); show wpAny _ _ (Builtin.SmallTypes.nextOf (.ref i1) >>= _) _ _ _
  refine wpAny_bind (N1.one _ _ _ _ k1 x (N1.frame _ _ _ _ h1 s1.extBut D.i1z D.l1z) ex fun g2 t1 s2 => wpAny_pure ?_)
  have to2 : IsPair g2 TO a b := s2.extBut _ _ D.TOi1 (s1.extBut _ _ D.TOz to)
  have r2 := N2.frame _ _ _ _ (N2.frame _ _ _ _ h2 s1.extBut D.i2z D.l2z) s2.extBut D.i12.symm D.l2i1
  refine wpAny_bind (wpAny_seqItems to2 rfl ?_); refine wpAny_bind (wpAny_updateSeq_pair to2 fun g3 to3 s3 => ?_)
  have to3 : IsPair g3 TO x b := to3
  refine wpAny_bind (wpAny_letGo (wpAny_pure ?_)); refine wpAny_bind (wpAny_bind (wpAny_onRaise ?_))
  show wpAny _ _ (Builtin.SmallTypes.nextOf (.ref i2) >>= _) _ _ _
  refine wpAny_bind (N2.one _ _ _ _ k2 y (N2.frame _ _ _ _ r2 s3.extBut D.TOi2.symm D.l2TO) ey fun g4 t2 s4 => wpAny_pure ?_)
  have to4 : IsPair g4 TO x b := s4.extBut _ _ D.TOi2 to3
  refine wpAny_bind (wpAny_seqItems to4 rfl ?_); refine wpAny_bind (wpAny_updateSeq_pair to4 fun g5 to5 s5 => ?_)
  have to5 : IsPair g5 TO x y := to5
  refine wpAny_bind (wpAny_letGo (wpAny_pure (wpAny_pure ?_))); refine wpAny_bind (wpAny_seqItems to5 rfl ?_); refine wpAny_bind (wpAny_newTuple ?_)
  have sz : g5.objs.size = s.heap.objs.size := by rw [s5.1, s4.1, s3.1, s2.1, s1.1]
  have z5 : IsZip g5 z TI TO .ellipsis := s5.extBut _ _ D.TOz.symm (s4.extBut _ _ D.i2z.symm (s3.extBut _ _ D.TOz.symm (s2.extBut _ _ D.i1z.symm z1)))
  have k5 : ∀ c o, c ≠ z → c ≠ TO → c ≠ i1 → c ≠ i2 → s.heap.get? c = some o → g5.get? c = some o := fun c o n1 n2 n3 n4 e =>
    s5.extBut _ _ n2 (s4.extBut _ _ n4 (s3.extBut _ _ n2 (s2.extBut _ _ n3 (s1.extBut _ _ n1 e))))
  have u1 : S1 (k1 + 1) g5 := N1.frame _ _ _ _ (N1.frame _ _ _ _ (N1.frame _ _ _ _ t1 s3.extBut D.TOi1.symm D.l1TO) s4.extBut D.i12 D.l1i2) s5.extBut D.TOi1.symm D.l1TO
  have u2 : S2 (k2 + 1) g5 := N2.frame _ _ _ _ t2 s5.extBut D.TOi2.symm D.l2TO
  show wpAny _ _ (Builtin.SmallTypes.ownedTupleHandOut (.ref z) (.ref g5.objs.size) >>= _) _ _ _
  refine wpAny_bind ?_; unfold Builtin.SmallTypes.ownedTupleHandOut
  have z6 : IsZip (g5.push { cls := .type "tuple", data := .seq #[x, y] }) z TI TO .ellipsis := Heap.get?_push_of_some _ z5
  refine wpAny_bind (wpAny_setField_rec z6 (by simp) fun g7 z7 s7 => ?_)
  have z7 : IsZip g7 z TI TO (rawInt g5.objs.size) := z7
  refine wpAny_setField_rec z7 (by simp) fun g8 z8 s8 => ?_
  have z8 : IsZip g8 z TI TO (rawInt g5.objs.size) := z8
  have up : ∀ c o, c ≠ z → g5.get? c = some o → g8.get? c = some o := fun c o n e => s8.extBut _ _ n (s7.extBut _ _ n (Heap.get?_push_of_some _ e))
  have zz : g5.objs.size ≠ z := Nat.ne_of_gt (by rw [sz]; exact bz)
  have m1 : i1 ≠ g5.objs.size := Nat.ne_of_lt (by rw [sz]; exact bi1)
  have m2 : i2 ≠ g5.objs.size := Nat.ne_of_lt (by rw [sz]; exact bi2)
  have m3 : l1 ≠ g5.objs.size := Nat.ne_of_lt (by rw [sz]; exact bl1)
  have m4 : l2 ≠ g5.objs.size := Nat.ne_of_lt (by rw [sz]; exact bl2)
  have hT : IsPair g8 g5.objs.size x y := s8.extBut _ _ zz (s7.extBut _ _ zz (Heap.get?_push_size _ rfl))
  have p6 : Heap.ExtBut g5.objs.size g5 (g5.push { cls := .type "tuple", data := .seq #[x, y] }) := fun c o _ e => Heap.get?_push_of_some _ e
  have fr1 : S1 (k1 + 1) g8 := N1.frame _ _ _ _ (N1.frame _ _ _ _ (N1.frame _ _ _ _ u1 p6 m1 m3) s7.extBut D.i1z D.l1z) s8.extBut D.i1z D.l1z
  have fr2 : S2 (k2 + 1) g8 := N2.frame _ _ _ _ (N2.frame _ _ _ _ (N2.frame _ _ _ _ u2 p6 m2 m4) s7.extBut D.i2z D.l2z) s8.extBut D.i2z D.l2z
  rw [sz] at z8 hT
  refine wpAny_pure ⟨_, rfl, ?_⟩
  show Q (.ref g5.objs.size) _
  rw [sz]
  have ti5 : IsPair g5 TI (.ref i1) (.ref i2) := k5 _ _ D.TIz D.TITO D.TIi1 D.TIi2 ti
  exact q g8 ⟨z8, up _ _ D.TIz ti5, up _ _ D.TOz to5⟩ fr1 fr2 hT fun c o n1 n2 n3 n4 e => up c o n1 (k5 c o n1 n2 n3 n4 e)
theorem zg_end {Q : Fin → Shared → Prop} (hh : A.handled = none) (D : ZipApart z TI TO i1 i2 l1 l2) (N1 : Nx prog w i1 l1 xs S1) (N2 : Nx prog w i2 l2 ys S2) (Z : ZAt s.heap z TI TO i1 i2 .none a b)
    (h1 : S1 k1 s.heap) (h2 : S2 k2 s.heap) (en : xs[k1]? = none ∨ ys[k2]? = none)
    (q : ∀ g e, (∀ c o, c ≠ z → c ≠ TO → c ≠ i1 → c ≠ i2 → s.heap.get? c = some o → g.get? c = some o) → (∃ o, g.get? e = some o ∧ o.cls = .type "StopIteration") → E (.ref e) { s with heap := g }) :
    wpAny (model prog w) A (Builtin.«zip.__next__» ⟨[.ref z], []⟩) Q E s := by
  obtain ⟨zp, ti, to⟩ := Z
  show wpAny _ _ (field (.ref z) 2 >>= _) _ _ _; refine wpAny_bind (wpAny_field zp rfl (x := .bool false) rfl ?_)
  show wpAny _ _ (field (.ref z) 3 >>= _) _ _ _; refine wpAny_bind (wpAny_field zp rfl (x := .ref TI) rfl ?_)
  refine wpAny_bind (wpAny_seqItems ti rfl ?_)
  show wpAny _ _ (Builtin.SmallTypes.ownedTupleIsFree (.ref z) >>= _) _ _ _; refine wpAny_bind ?_
  unfold Builtin.SmallTypes.ownedTupleIsFree; refine wpAny_bind (wpAny_field zp rfl (x := .none) rfl (wpAny_pure ?_))
  simp only [if_true]; refine wpAny_bind (wpAny_rule ?_)
  refine wpAny_bind (wpAny_field zp rfl (x := .ref TO) rfl ?_); refine wpAny_bind (wpAny_setField_rec zp (by simp) fun g1 z1 s1 => ?_)
  have z1 : IsZip g1 z TI TO .ellipsis := z1
  refine wpAny_bind ?_; simp only [List.zipIdx_cons, List.zipIdx_nil, List.forIn_cons, List.forIn_nil]
  refine wpAny_bind (wpAny_bind (wpAny_onRaise ?_)); show wpAny _ _ (Builtin.SmallTypes.nextOf (.ref i1) >>= _) _ _ _
  have f1 := N1.frame _ _ _ _ h1 s1.extBut D.i1z D.l1z
  cases ex : xs[k1]? with
  | none =>
    refine wpAny_bind (N1.fin _ _ _ _ k1 hh f1 ex fun g2 e s2 he => ?_)
    obtain ⟨oe, e1, e2⟩ := he
    have z2 : IsZip g2 z TI TO .ellipsis := s2 _ _ D.i1z.symm z1
    have ne : e ≠ z := fun h => by rw [h, z2] at e1; cases e1; simp at e2
    refine wpAny_setField_rec z2 (by simp) fun g3 _ s3 => q g3 e (fun c o n1 _ n3 _ h => s3.extBut _ _ n1 (s2 _ _ n3 (s1.extBut _ _ n1 h))) ⟨oe, s3.extBut _ _ ne e1, e2⟩
  | some x =>
    have ey : ys[k2]? = none := by rcases en with h | h; rw [ex] at h; cases h; exact h
    refine wpAny_bind (N1.one _ _ _ _ k1 x f1 ex fun g2 t1 s2 => wpAny_pure ?_)
    have to2 : IsPair g2 TO a b := s2.extBut _ _ D.TOi1 (s1.extBut _ _ D.TOz to)
    have r2 := N2.frame _ _ _ _ (N2.frame _ _ _ _ h2 s1.extBut D.i2z D.l2z) s2.extBut D.i12.symm D.l2i1
    refine wpAny_bind (wpAny_seqItems to2 rfl ?_); refine wpAny_bind (wpAny_updateSeq_pair to2 fun g3 to3 s3 => ?_)
    refine wpAny_bind (wpAny_letGo (wpAny_pure ?_)); refine wpAny_bind (wpAny_bind (wpAny_onRaise ?_))
    show wpAny _ _ (Builtin.SmallTypes.nextOf (.ref i2) >>= _) _ _ _
    refine wpAny_bind (N2.fin _ _ _ _ k2 hh (N2.frame _ _ _ _ r2 s3.extBut D.TOi2.symm D.l2TO) ey fun g4 e s4 he => ?_)
    obtain ⟨oe, e1, e2⟩ := he
    have z4 : IsZip g4 z TI TO .ellipsis := s4 _ _ D.i2z.symm (s3.extBut _ _ D.TOz.symm (s2.extBut _ _ D.i1z.symm z1))
    have ne : e ≠ z := fun h => by rw [h, z4] at e1; cases e1; simp at e2
    refine wpAny_setField_rec z4 (by simp) fun g5 _ s5 => q g5 e (fun c o n1 n2 n3 n4 h => s5.extBut _ _ n1 (s4 _ _ n4 (s3.extBut _ _ n2 (s2.extBut _ _ n3 (s1.extBut _ _ n1 h))))) ⟨oe, s5.extBut _ _ ne e1, e2⟩
theorem zg_nx {Q : Option Value → Shared → Prop} (D : ZipApart z TI TO i1 i2 l1 l2) (N1 : Nx prog w i1 l1 xs S1) (N2 : Nx prog w i2 l2 ys S2) (Z : ZAt s.heap z TI TO i1 i2 .none a b)
    (h1 : S1 k1 s.heap) (h2 : S2 k2 s.heap) (ex : xs[k1]? = some x) (ey : ys[k2]? = some y) (big : z < s.heap.objs.size ∧ l1 < s.heap.objs.size ∧ l2 < s.heap.objs.size ∧ i1 < s.heap.objs.size ∧ i2 < s.heap.objs.size)
    (q : ∀ g, ZAt g z TI TO i1 i2 (rawInt s.heap.objs.size) x y → S1 (k1 + 1) g → S2 (k2 + 1) g → IsPair g s.heap.objs.size x y →
      (∀ c o, c ≠ z → c ≠ TO → c ≠ i1 → c ≠ i2 → s.heap.get? c = some o → g.get? c = some o) → Q (some (.ref s.heap.objs.size)) { s with heap := g }) :
    wpAny (model prog w) A (pyNext (.ref z)) Q E s := by
  have hT : s.TypeIs (.ref z) "zip" := ⟨_, Z.zp, rfl⟩
  unfold pyNext
  refine wpAny_bind (wpAny_attempt (wpAny_callSpecial?_slot (name := Str.ofString "__next__") hT F.slot_zip_next ?_))
  exact wpAny_call_entry F.slot_zip_next hT F.entry_zip_next (zg_item D N1 N2 Z h1 h2 ex ey big fun g c1 c2 c3 c4 c5 => wpAny_pure (q g c1 c2 c3 c4 c5)) (F.args_zip_next_1 _)
theorem zg_stop {Q : Option Value → Shared → Prop} (hh : A.handled = none) (D : ZipApart z TI TO i1 i2 l1 l2) (N1 : Nx prog w i1 l1 xs S1) (N2 : Nx prog w i2 l2 ys S2) (Z : ZAt s.heap z TI TO i1 i2 .none a b)
    (h1 : S1 k1 s.heap) (h2 : S2 k2 s.heap) (en : xs[k1]? = none ∨ ys[k2]? = none)
    (q : ∀ g, (∀ c o, c ≠ z → c ≠ TO → c ≠ i1 → c ≠ i2 → s.heap.get? c = some o → g.get? c = some o) → Q none { s with heap := g }) : wpAny (model prog w) A (pyNext (.ref z)) Q E s := by
  have hT : s.TypeIs (.ref z) "zip" := ⟨_, Z.zp, rfl⟩
  unfold pyNext
  refine wpAny_bind (wpAny_attempt (wpAny_callSpecial?_slot (name := Str.ofString "__next__") hT F.slot_zip_next ?_))
  refine wpAny_call_entry F.slot_zip_next hT F.entry_zip_next (zg_end hh D N1 N2 Z h1 h2 en fun g e hk he => ?_) (F.args_zip_next_1 _)
  obtain ⟨o, ho, hc⟩ := he
  refine wpAny_bind (wpAny_isInstance (T := "StopIteration") (b := true) ⟨o, ho, hc⟩ isSubtype_stop ?_)
  exact wpAny_pure (q _ hk)
end
abbrev zm1 (h : Heap) (a : Addr) : Heap := h.push { cls := .type "tuple_iterator", data := .fields #[.ref a, .int 0 0] }
abbrev zm2 (h : Heap) (a b : Addr) : Heap := (zm1 h a).push { cls := .type "list_iterator", data := .fields #[.ref b, .int 0 0] }
abbrev zm3 (h : Heap) (a b : Addr) : Heap := (zm2 h a b).push { cls := .type "tuple", data := .seq #[.ref h.objs.size, .ref (zm1 h a).objs.size] }
abbrev zm4 (h : Heap) (a b : Addr) : Heap := (zm3 h a b).push { cls := .type "tuple", data := .seq #[.none, .none] }
abbrev zm5 (h : Heap) (a b : Addr) : Heap := (zm4 h a b).push { cls := .type "zip", data := .fields #[.none, .bool false, .bool false, .ref (zm2 h a b).objs.size, .ref (zm3 h a b).objs.size] }
theorem meets_zm (a b : Addr) (xs ys : Array Value) :
    Meets (Builtin.«zip.__new__» ⟨[.type "zip", .ref a, .ref b], []⟩) (fun _ R s => s.heap.IsTuple a xs ∧ s.heap.IsList b ys ∧ R (.ok (.ret (.ref (zm4 s.heap a b).objs.size))) { s with heap := zm5 s.heap a b }) :=
  .of_wp fun prog w A R s h => by
    obtain ⟨hp, g, d, tk, os⟩ := s; obtain ⟨m1, m2, h⟩ := h
    have hsub := sub_zip
    have hA : Heap.IsTuple (Shared.heap ⟨hp, g, d, tk, os⟩) a xs := m1
    have hB : Heap.IsList (Shared.heap ⟨hp.push { cls := .type "tuple_iterator", data := .fields #[.ref a, .int 0 0] }, g, d, tk, os⟩) b ys := Heap.IsList.push m2 _
    wp_walk using wpAny_pyIter_tuple hA, wpAny_pyIter_list hB
    exact ⟨_, rfl, h⟩
section
variable {prog : Program} {w : World} {A : Around} {E : Value → Shared → Prop} {s : Shared}
theorem call_zm {a b : Addr} {xs ys : Array Value} {Q : Value → Shared → Prop} (m1 : s.heap.IsTuple a xs) (m2 : s.heap.IsList b ys)
    (h : ∀ g, ZAt g (s.heap.objs.size + 4) (s.heap.objs.size + 2) (s.heap.objs.size + 3) s.heap.objs.size (s.heap.objs.size + 1) .none .none .none → g.IsTupleIter s.heap.objs.size a 0 → g.IsListIter (s.heap.objs.size + 1) b 0 →
      (∀ c o, s.heap.get? c = some o → g.get? c = some o) → Q (.ref (s.heap.objs.size + 4)) { s with heap := g }) :
    wpAny (model prog w) A (call (.type "zip") [.ref a, .ref b]) Q E s := by
  refine callType_new F.called_zip (by decide) (F.typeCall_zip_2 _ _) (F.newCall_zip_2 _ _) (fun obj => F.args_object_init_3 obj _ _) F.entry_zip_new (meets_zm a b xs ys) ⟨m1, m2, ?_⟩
  have n1 : (zm1 s.heap a).objs.size = s.heap.objs.size + 1 := Heap.size_push ..
  have n2 : (zm2 s.heap a b).objs.size = s.heap.objs.size + 2 := by rw [Heap.size_push, n1]
  have n3 : (zm3 s.heap a b).objs.size = s.heap.objs.size + 3 := by rw [Heap.size_push, n2]
  have n4 : (zm4 s.heap a b).objs.size = s.heap.objs.size + 4 := by rw [Heap.size_push, n3]
  have e5 : (zm5 s.heap a b).get? (zm4 s.heap a b).objs.size = some _ := Heap.get?_push_size _ rfl
  have e4 : (zm5 s.heap a b).get? (zm3 s.heap a b).objs.size = some _ := Heap.get?_push_of_some _ (Heap.get?_push_size _ rfl)
  have e3 : (zm5 s.heap a b).get? (zm2 s.heap a b).objs.size = some _ := Heap.get?_push_of_some _ (Heap.get?_push_of_some _ (Heap.get?_push_size _ rfl))
  have e2 : (zm5 s.heap a b).get? (zm1 s.heap a).objs.size = some _ := Heap.get?_push_of_some _ (Heap.get?_push_of_some _ (Heap.get?_push_of_some _ (Heap.get?_push_size _ rfl)))
  have e1 : (zm5 s.heap a b).get? s.heap.objs.size = some _ := Heap.get?_push_of_some _ (Heap.get?_push_of_some _ (Heap.get?_push_of_some _ (Heap.get?_push_of_some _ (Heap.get?_push_size _ rfl))))
  show _ ∧ _
  rw [n2, n3, n4] at e5
  rw [n1, n2] at e3
  rw [n3] at e4
  rw [n1] at e2
  rw [n4]
  exact ⟨⟨_, e5, rfl⟩, h _ ⟨e5, e3, e4⟩ ⟨_, e1, rfl, rfl⟩ ⟨_, e2, rfl, rfl⟩ fun c o e => Heap.get?_push_of_some _ (Heap.get?_push_of_some _ (Heap.get?_push_of_some _ (Heap.get?_push_of_some _ (Heap.get?_push_of_some _ e))))⟩
end
open PySem.Spec PyProof.Rows L2
/-- zip of the tuple at a and the list at b -/
def Itm (K : PySem.W.Frag) (a b : Addr) : It :=
  ⟨fun i H => ∃ (xs ys : List V) (x y : V), SqT K H a xs ∧ SqL K H b ys ∧ xs[i]? = some x ∧ ys[i]? = some y,
    fun i H v H' => ∃ T x y, v = .ref T ∧ H T = none ∧ H' = upd H T (.tup [x, y]) ∧ (∀ xs, SqT K H a xs → xs[i]? = some x) ∧ ∀ ys, SqL K H b ys → ys[i]? = some y,
    fun i H => ∃ xs ys : List V, SqT K H a xs ∧ SqL K H b ys ∧ (xs.length ≤ i ∨ ys.length ≤ i)⟩
theorem turn_zm {P : Program} {w : World} {K : PySem.W.Frag} {elts : List Expr} {kk : Nat} {tpos : Pos} {a b z TI TO i1 i2 : Addr} (D : ZipApart z TI TO i1 i2 a b) :
    Turn P w K (.Tuple elts kk tpos) (Itm K a b) [z, TI, TO, i1, i2] z (fun i h => (∃ x y, ZAt h z TI TO i1 i2 .none x y) ∧ h.IsTupleIter i1 a i ∧ h.IsListIter i2 b i) where
  mem := by simp
  obj := fun i h st c hc => by
    obtain ⟨⟨x, y, zp, ti, to⟩, ⟨o1, e1, _, d1⟩, ⟨o2, e2, _, d2⟩⟩ := st
    rcases (by simpa using hc : c = z ∨ c = TI ∨ c = TO ∨ c = i1 ∨ c = i2) with r | r | r | r | r
    · rw [r]; exact ⟨_, zp, fun v q => nomatch q⟩
    · rw [r]; exact ⟨_, ti, fun v q => nomatch q⟩
    · rw [r]; exact ⟨_, to, fun v q => nomatch q⟩
    · rw [r]; exact ⟨o1, e1, fun v q => by rw [d1] at q; cases q⟩
    · rw [r]; exact ⟨o2, e2, fun v q => by rw [d2] at q; cases q⟩
  keep := fun i h g st k => by
    obtain ⟨⟨x, y, zp, ti, to⟩, h1, h2⟩ := st
    exact ⟨⟨x, y, k z (by simp) _ zp, k TI (by simp) _ ti, k TO (by simp) _ to⟩, h1.at fun o q => k i1 (by simp) o q, h2.at fun o q => k i2 (by simp) o q⟩
  item := by
    intro X hP hw hK hc i pins s σ H E I hf st hg
    subst hP hw hK
    obtain ⟨⟨x0, y0, Z⟩, h1, h2⟩ := st
    obtain ⟨xs, ys, x, y, sx, sy, ex, ey⟩ := hg
    obtain ⟨its, rv, p, _⟩ := I.tuple sx
    obtain ⟨its2, rv2, p2, _⟩ := I.list sy
    obtain ⟨u, hu, ru⟩ := rv.get ex
    obtain ⟨u2, hu2, ru2⟩ := rv2.get ey
    have bz : z < s.heap.objs.size := Heap.lt_size Z.zp
    have b1 : i1 < s.heap.objs.size := by obtain ⟨_, e, _⟩ := h1; exact Heap.lt_size e
    have b2 : i2 < s.heap.objs.size := by obtain ⟨_, e, _⟩ := h2; exact Heap.lt_size e
    have ba : a < s.heap.objs.size := by obtain ⟨_, e, _⟩ := id p; exact Heap.lt_size e
    have hin : ∀ c ∈ [z, TI, TO, i1, i2], c < s.heap.objs.size := fun c hcm => by
      rcases (by simpa using hcm : c = z ∨ c = TI ∨ c = TO ∨ c = i1 ∨ c = i2) with r | r | r | r | r
      · rw [r]; exact bz
      · rw [r]; exact Heap.lt_size Z.ti
      · rw [r]; exact Heap.lt_size Z.to
      · rw [r]; exact b1
      · rw [r]; exact b2
    refine zg_nx D (nx_tup D.l1i1) (nx_lst D.l2i2) Z ⟨h1, p⟩ ⟨h2, p2.isList⟩ (x := u) (y := u2) (by simpa using hu) (by simpa using hu2) ⟨bz, ba, p2.lt, b1, b2⟩ fun g Z' t1 t2 hT hk => ?_
    refine ⟨_, rfl, wpAny_letOwnedTupleGo_zip (s := { s with heap := g }) Z'.zp fun g2 z2 sb => ?_⟩
    have hT2 : IsPair g2 s.heap.objs.size u u2 := (sb.2 _ (Nat.ne_of_gt bz)).trans hT
    have new : ObjOk X.prog X.w (upd H s.heap.objs.size (.tup [x, y])) g2 s.heap.objs.size (.tup [x, y]) := ⟨by show 2 ≤ sizeLine; decide, [u, u2], .cons ru (.cons ru2 .nil), ⟨_, hT2, rfl, _, rfl⟩⟩
    have old : ∀ c o, c ∉ [z, TI, TO, i1, i2] → s.heap.get? c = some o → g2.get? c = some o := fun c o hb q => by
      simp only [List.mem_cons, List.not_mem_nil, or_false, not_or] at hb
      exact (sb.2 c hb.1).trans (hk c o hb.1 hb.2.2.1 hb.2.2.2.1 hb.2.2.2.2 q)
    refine ⟨.ref s.heap.objs.size, _, I.turnedNew (t' := s.toks) (ch := [z, TI, TO, i1, i2]) old hf (Nat.le_refl _) new, rfl, ⟨_, x, y, rfl, I.hok.fresh (Nat.le_refl _), rfl, fun l hl => ?_, fun l hl => ?_⟩, ⟨⟨u, u2, z2, (sb.2 _ D.TIz).trans Z'.ti, (sb.2 _ D.TOz).trans Z'.to⟩, ?_, ?_⟩, fun c hcm => ?_⟩
    · rw [I.tuple_inj hl sx]; exact ex
    · rw [I.list_inj hl sy]; exact ey
    · exact t1.1.at fun o q => (sb.2 _ D.i1z).trans q
    · exact t2.1.at fun o q => (sb.2 _ D.i2z).trans q
    · rw [upd_ne (Nat.ne_of_lt (hin c hcm))]
      exact (hf c hcm).1
  done := by
    intro X hP hw hK hc i pins s σ H E I hf st hg
    subst hP hw hK
    obtain ⟨⟨x0, y0, Z⟩, h1, h2⟩ := st
    obtain ⟨xs, ys, sx, sy, en⟩ := hg
    obtain ⟨its, rv, p, _⟩ := I.tuple sx
    obtain ⟨its2, rv2, p2, _⟩ := I.list sy
    have l1 := rv.length
    have l2 := rv2.length
    have he : its.toArray[i]? = none ∨ its2.toArray[i]? = none := en.imp (fun q => by simp; omega) (fun q => by simp; omega)
    refine zg_stop (I.ok.hd hc) D (nx_tup D.l1i1) (nx_lst D.l2i2) Z ⟨h1, p⟩ ⟨h2, p2.isList⟩ he fun g hk => ⟨rfl, I.turnedL (t' := s.toks) (ch := [z, TI, TO, i1, i2]) (fun c o hb q => ?_) hf⟩
    simp only [List.mem_cons, List.not_mem_nil, or_false, not_or] at hb
    exact hk c o hb.1 hb.2.2.1 hb.2.2.2.1 hb.2.2.2.2 q
  self := fun A i s Q E st h => by
    obtain ⟨⟨_, _, Z⟩, _⟩ := st
    exact wpAny_pyIter_zip Z.zp h
def iZm (K : PySem.W.Frag) (ta : TA) : L2.TI := fun σ H R => ta σ H fun vs H1 => ∃ a b xs ys, vs = [.ref a, .ref b] ∧ SqT K H1 a xs ∧ SqL K H1 b ys ∧ R (Itm K a b) H1
theorem pi_zm {X : Cx} {e e2 : Expr} {ta : TA} {p pos tpos : Pos} {elts : List Expr} {kk : Nat} (hg : Gl X "zip") (hm : X.mg "zip" = none) (ha : PA X [e, e2] ta)
    (hs : starEach [e, e2] X.env = (false, eval e X.env) :: starEach [e2] X.env := by rfl) (hpl : (backTo pos (starEach [e2] X.env)).any (·.1) = false := by rfl) : PI X (.Tuple elts kk tpos) (.Call (.Name "zip" p) [e, e2] [] pos) (iZm X.K ta) := by
  refine ⟨fun pins s σ H R I h => Call_ (ld_blt I hg hm PyProof.Rows.boot_zip (PyProof.Rows.callWith_type1 (thn (ha.run pos pins s σ H _ I h) fun us s1 hh => ?_) hs hpl))⟩
  obtain ⟨vs, H1, I1, r1, a, b, xs, ys, rfl, sx, sy, q⟩ := hh
  match us, r1 with
  | [_, _], .cons r (.cons r' .nil) =>
    cases r
    cases r'
    obtain ⟨its, rv, p1, _⟩ := I1.tuple sx
    obtain ⟨its2, rv2, p2, _⟩ := I1.list sy
    have la : a < s1.heap.objs.size := by obtain ⟨_, e, _⟩ := id p1; exact Heap.lt_size e
    refine call_zm (show s1.heap.IsTuple a its.toArray from p1) p2.isList fun g Z t1 t2 hk => wpAny_pyIter_zip Z.zp ?_
    have I2 : Inv X pins σ H1 { s1 with heap := g } := I1.kept (t' := s1.toks) hk
    refine ⟨s1.heap.objs.size + 4, [s1.heap.objs.size + 4, s1.heap.objs.size + 2, s1.heap.objs.size + 3, s1.heap.objs.size, s1.heap.objs.size + 1], _, _, H1, rfl, I2, turn_zm (PySem.W.ktu_apart s1.heap.objs.size a b la p2.lt), ⟨⟨_, _, Z⟩, t1, t2⟩, fun c hcm => ?_, q⟩
    have hle : s1.heap.objs.size ≤ c := by
      simp only [List.mem_cons, List.not_mem_nil, or_false] at hcm
      rcases hcm with r | r | r | r | r
      · rw [r]; exact Nat.le_add_right _ _
      · rw [r]; exact Nat.le_add_right _ _
      · rw [r]; exact Nat.le_add_right _ _
      · rw [r]; exact Nat.le_refl _
      · rw [r]; exact Nat.le_add_right _ _
    exact I1.fpOk hle (I1.hok.fresh hle)
section
variable {K : PySem.W.Frag} {a b : Addr} {xs ys : List V}
theorem walk_zm {n : Nat} (h1 : xs.length = n) (h2 : ys.length = n) : Walk (Itm K a b) n (fun H => SqT K H a xs ∧ SqL K H b ys) (YPair (fun i => xs[i]?) (fun i => ys[i]?)) := by
  refine ⟨fun i _ hi q => ⟨xs, ys, xs[i], ys[i], q.1, q.2, by simp [h1, hi], by simp [h2, hi]⟩, fun _ q => ⟨xs, ys, q.1, q.2, by omega⟩, fun i H v H' _ q y => ?_⟩
  obtain ⟨T, x, z, r1, r2, r3, r4, r5⟩ := y
  exact ⟨T, x, z, r1, r2, r3, r4 xs q.1, r5 ys q.2⟩
end
end FR
set_option Elab.async false
set_option linter.all false
set_option maxRecDepth 100000
/-! a, b, *c = a tuple -/
namespace FR
open PySem PySem.Spec PySem.Calls PyProof.Rows L2
section
variable {prog : Program} {w : World} {A : Around} {E : Value → Shared → Prop} {s : Shared}
open PySem.W in
theorem un_star {l : Addr} {items : Array Value} {n i : Nat} {Q : List Value → Shared → Prop} (hl : IsTup s.heap l items) (hh : A.handled = none) (hi : i < n) (hn : n ≤ items.size + 1) (hz : items.size ≤ 16384)
    (q : ∀ (g : Heap) (tk : Nat), (∀ b o, s.heap.get? b = some o → g.get? b = some o) →
      Q (items.toList.take i ++ [.ref g.objs.size] ++ (items.toList.drop i).drop (items.size + 1 - n)) { s with heap := g.push { cls := .type "list", data := .seq ((items.toList.drop i).take (items.size + 1 - n)).toArray }, toks := tk }) : wpAny (model prog w) A (unpackItems (.ref l) n (some i)) Q E s := by
  have bl : l < s.heap.objs.size := by obtain ⟨o, ho, _⟩ := id hl; exact Heap.lt_size ho
  have nl : l ≠ s.heap.objs.size := Nat.ne_of_lt bl
  unfold unpackItems; refine wpAny_bind ?_
  unfold notIterableAtAll; refine wpAny_bind (wpAny_specialOf hl.typeIs slot_tuple_iter.lookup ?_)
  refine wpAny_pure ?_; simp only [Bool.false_eq_true, if_false]
  refine wpAny_bind (wpAny_holding (iter_tuple hl ?_)); refine wpAny_bind (wpAny_holding (draw_tuple nl i 0 _ _ ⟨_, Heap.get?_push_size _ rfl, rfl, rfl⟩ (hl.push _) (by omega) fun g1 t1 s1 => ?_))
  have hl1 : IsTup g1 l items := (hl.push _).extBut s1.extBut nl
  rw [Nat.zero_add] at t1
  obtain ⟨oi, hoi, _⟩ := id t1
  obtain ⟨ol, hol, _⟩ := id hl1
  rw [List.drop_zero]
  have e1 : (items.toList.take i).length = i := by rw [List.length_take, Array.length_toList]; omega
  have e2 : (items.toList.drop i).length = items.size - i := by rw [List.length_drop, Array.length_toList]
  have e3 : (items.toList.drop i).length - (n - 1 - i) = items.size + 1 - n := by rw [e2]; omega
  rw [if_neg (show ¬ ((items.toList.take i).length < i) by omega)]
  have hW := Walks.tuple (prog := prog) (w := w) (A := A.in1) hh s.heap.objs.size l nl items
  refine wpAny_bind (wpAny_holding (kun_collect (s := { s with heap := g1 }) (T := "tuple_iterator") (.inr (.inr (.inr rfl))) hW (fun j u st => st.1.typeIs) (k := i) (by omega) ⟨t1, hl1⟩ (Heap.lt_size hoi) (Heap.lt_size hol) (fun g2 tk hk => ?_) (by rw [sizeLine_eq]; omega)))
  show wpAny _ _ (if (items.toList.drop i).length < n - 1 - i then _ else _) _ _ _; rw [if_neg (by rw [e2]; omega)]
  show wpAny _ _ (newList ((items.toList.drop i).take ((items.toList.drop i).length - (n - 1 - i))) >>= fun d => pure (items.toList.take i ++ [d] ++ (items.toList.drop i).drop ((items.toList.drop i).length - (n - 1 - i)))) _ _ _
  rw [e3]
  have hx : ∀ b o, s.heap.get? b = some o → g2.get? b = some o := fun b o e => hk b o (Nat.ne_of_lt (Heap.lt_size e)) (s1.extBut b o (Nat.ne_of_lt (Heap.lt_size e)) (Heap.get?_push_of_some _ e))
  refine wpAny_bind (wpAny_newList (wpAny_pure (q g2 tk hx)) ?_)
  rw [List.length_take, e2, sizeLine_eq]; omega
end
section
variable {X : Cx} {pos : Pos}
def gUnS (K : PySem.W.Frag) (n i : Nat) (t : TGs) : TG := fun v σ H Q => ∃ a xs, v = .ref a ∧ SqT K H a xs ∧ n ≤ xs.length + 1 ∧ xs.length ≤ 16384 ∧
  NewO (.lst ((xs.drop i).take (xs.length + 1 - n))) (fun d H' => t (xs.take i ++ [d] ++ (xs.drop i).drop (xs.length + 1 - n)) σ H' Q) H
theorem pg_unS {es : List Expr} {k : Nat} {t : TGs} {n i : Nat} (hc : X.calm = true) (h : PGs X es t)
    (hn : (assignEach es X.env).length = n := by rfl) (hst : (assignEach es X.env).findIdx? (·.1) = some i := by rfl) (hi : i < n := by decide) : PG X (.Tuple es k pos) (gUnS X.K n i t) := by
  refine ⟨fun pins s σ H v u Q I r hw => ?_⟩
  obtain ⟨a, xs, rfl, hq, hln, hz, hw⟩ := hw
  cases r
  obtain ⟨its, rv, ht, _⟩ := I.tuple hq
  have el := rv.length
  rw [assign_Tuple]
  refine wpAny_bind (wpAny_standAt ?_)
  unfold unpack
  rw [hn, hst]
  refine wpAny_bind (wpAny_holding (un_star (items := its.toArray) ht (I.ok.hd hc) hi (by simpa [← el] using hln) (by simpa [← el] using hz) fun g tk hk => ?_))
  have esz : its.toArray.size + 1 - n = xs.length + 1 - n := by simp [el]
  rw [esz]
  have rm : Vals ((xs.drop i).take (xs.length + 1 - n)) ((its.drop i).take (xs.length + 1 - n)) := (rv.drop i).take _
  have sm : ((xs.drop i).take (xs.length + 1 - n)).length ≤ sizeLine := by
    have : ((xs.drop i).take (xs.length + 1 - n)).length ≤ xs.length := by rw [List.length_take, List.length_drop]; omega
    exact Nat.le_trans this (Nat.le_trans hz (by rw [sizeLine_eq]; omega))
  have I0 : Inv X pins σ H { s with heap := g, toks := tk } := I.kept (t' := tk) hk
  have hf : H g.objs.size = none := I0.hok.fresh (Nat.le_refl _)
  have I1 := I0.laid (t' := tk) (o := .lst ((xs.drop i).take (xs.length + 1 - n))) (fun b o e => Heap.get?_push_of_some _ e) (Nat.le_refl _) ⟨sm, (its.drop i).take (xs.length + 1 - n), 0, rm, by simpa using Heap.get?_push_size _ rfl⟩
  exact h.run pins _ σ _ _ _ Q I1 (((rv.take i).append (.cons (show RelV (.ref g.objs.size) (.ref g.objs.size) from rfl) .nil)).append ((rv.drop i).drop _)) (hw.to g.objs.size _ hf (keep_new hf) upd_same)
theorem pgs_star {e : Expr} {p : Pos} {es : List Expr} {t : TG} {u : TGs} (h1 : PG X e t) (h2 : PGs X es u)
    (hs : (assignEach (.Starred e p :: es) X.env).map (·.2) = assign e X.env :: (assignEach es X.env).map (·.2) := by rfl) : PGs X (.Starred e p :: es) (gCons t u) := by
  refine ⟨fun pins s σ H vs us Q I r h => ?_⟩
  obtain ⟨v, vr, rfl, h⟩ := h
  cases r with
  | cons r rr =>
    rw [hs]
    exact assignInOrder_cons (thn (h1.run pins s σ H _ _ _ I r h) fun _ s1 ⟨σ1, H1, I1, q1⟩ => h2.run pins s1 σ1 H1 _ _ Q I1 rr q1)
end
end FR
set_option Elab.async false
set_option linter.all false
set_option maxRecDepth 100000
/-! list(d.values()), list(d.items()) -/
namespace FR
open PySem PySem.Spec PySem.Calls PyProof.Rows L2 L2.DX
open PySem.W (kdl_call kdl_values kdl_vals_eq dil_call DilG)
/-- the view d.values() at p -/
def valuesO (p d : Addr) : HO := .ext fun h => h.IsValuesView p d
theorem valuesO_ok {P : Program} {w : World} {H : Hp} {h : Heap} {p d : Addr} (e : h.get? p = some { cls := .type "dict_values", data := .fields #[.ref d] }) : ObjOk P w H h p (valuesO p d) :=
  ⟨⟨_, e, rfl, rfl⟩, ⟨_, e⟩, fun h1 h2 x k => let ⟨o, ho, r⟩ := x; ⟨o, k o ho, r⟩⟩
theorem KV.seconds {κ : Type} {kvs : List (κ × V)} {vs : List (κ × Value)} (r : KV kvs vs) : Vals (kvs.map (·.2)) (vs.map (·.2)) := by
  unfold KV at r
  induction r with
  | nil => exact .nil
  | cons h t ih => exact .cons h.2 ih
section
variable {X : Cx}
def rValsK : V → List V → Hp → VK → Prop := fun x xs H Q => ∃ (a : Addr) (kvs : List (L2.Key × V)), x = .ref a ∧ xs = [] ∧ H a = some (.dK kvs) ∧ ∀ p, H p = none → Q (.ref p) (upd H p (valuesO p a))
theorem mt_valuesK : MtR X "dict.values" rValsK := by
  intro pins s σ H x xs v us Q I rx rxs h
  obtain ⟨a, kvs, rfl, rfl, ha, q⟩ := h
  cases rx
  cases rxs
  obtain ⟨z, hd, vs, rel, dd⟩ := dk_of I.hok ha
  have hf : H s.heap.objs.size = none := I.hok.fresh (Nat.le_refl _)
  exact call_meetsIn PySem.F.slot_dict_values dd.typeIs PySem.F.entry_dict_values (PySem.F.args_dict_values_1 _) (meets_dict_values (mixKind X.prog X.w) a hd)
    ⟨⟨vs, dd⟩, ⟨.ref s.heap.objs.size, upd H s.heap.objs.size (valuesO s.heap.objs.size a), I.laid (t' := s.toks) (fun b u e => Heap.get?_push_of_some _ e) (Nat.le_refl _) (valuesO_ok (Heap.get?_push_size _ rfl)), rfl, q _ hf⟩⟩
def rItemsK : V → List V → Hp → VK → Prop := fun x xs H Q => ∃ (a : Addr) (kvs : List (L2.Key × V)), x = .ref a ∧ xs = [] ∧ H a = some (.dK kvs) ∧ ∀ p, H p = none → Q (.ref p) (upd H p (itemsO p a))
theorem mt_itemsK : MtR X "dict.items" rItemsK := by
  intro pins s σ H x xs v us Q I rx rxs h
  obtain ⟨a, kvs, rfl, rfl, ha, q⟩ := h
  cases rx
  cases rxs
  obtain ⟨z, hd, vs, rel, dd⟩ := dk_of I.hok ha
  have hf : H s.heap.objs.size = none := I.hok.fresh (Nat.le_refl _)
  exact call_meetsIn PySem.F.slot_dict_items dd.typeIs PySem.F.entry_dict_items (PySem.F.args_dict_items_1 _) (meets_dict_items (mixKind X.prog X.w) a hd)
    ⟨⟨vs, dd⟩, ⟨.ref s.heap.objs.size, upd H s.heap.objs.size (itemsO s.heap.objs.size a), I.laid (t' := s.toks) (fun b u e => Heap.get?_push_of_some _ e) (Nat.le_refl _) (itemsO_ok (Heap.get?_push_size _ rfl)), rfl, q _ hf⟩⟩
def rLVals : List V → Hp → VK → Prop := fun xs H Q => ∃ (p a : Addr) (kvs : List (L2.Key × V)), xs = [.ref p] ∧ H p = some (valuesO p a) ∧ H a = some (.dK kvs) ∧ NewO (.lst (kvs.map (·.2))) Q H
theorem call_lVals (hc : X.calm = true) : CallR X (.type "list") rLVals := by
  intro pins s σ H xs us Q I r h
  obtain ⟨p, a, kvs, rfl, hp, ha, q⟩ := h
  obtain rfl := Vals.ref1 r
  have view : s.heap.IsValuesView p a := (show ObjOk X.prog X.w H s.heap p (valuesO p a) from I.hok p _ hp).1
  obtain ⟨z, hd, vs, rel, dd⟩ := dk_of I.hok ha
  obtain ⟨ep, hat⟩ := dd.dictAt
  have hl : kvs.length = vs.length := Paired.length rel
  refine kdl_call (kdl_values (knd := mixKind X.prog X.w) (kvs := vs) (ep := ep)) (I.ok.hd hc) ⟨view, hat⟩ (by omega) fun h' tk acc c hk hS hacc => ?_
  have ev : acc.toList = vs.map (·.2) := kdl_vals_eq acc.toList (by rw [Array.length_toList]; exact hacc.1) fun j u hu => hacc.2 j u (by rw [← Array.getElem?_toList]; exact hu)
  have hf : H s.heap.objs.size = none := I.hok.fresh (Nat.le_refl _)
  have ok : ObjOk X.prog X.w (upd H s.heap.objs.size (.lst (kvs.map (·.2)))) h' s.heap.objs.size (.lst (kvs.map (·.2))) := ⟨by rw [List.length_map]; exact z, vs.map (·.2), c, KV.seconds rel, by rw [hS, ← ev]⟩
  exact ⟨.ref s.heap.objs.size, _, I.laid (t' := tk) hk (Nat.le_refl _) ok, rfl, q.to _ _ hf (keep_new hf) upd_same⟩
def rLItems : List V → Hp → VK → Prop := fun xs H Q => ∃ (p a : Addr) (kvs : List (L2.Key × V)), xs = [.ref p] ∧ H p = some (itemsO p a) ∧ H a = some (.dK kvs) ∧
  ∀ (H' : Hp) (l : Addr) (ps : List Addr), H l = none → Keep [] H H' → H' l = some (.lst (ps.map V.ref)) → Paired (fun p kv => H p = none ∧ H' p = some (.tup [kV kv.1, kv.2])) ps kvs → Q (.ref l) H'
theorem paired_of {α β : Type} {R : α → β → Prop} : ∀ {xs : List α} {ys : List β}, xs.length = ys.length → (∀ (j : Nat) (x : α) (y : β), xs[j]? = some x → ys[j]? = some y → R x y) → Paired R xs ys
  | [], [], _, _ => .nil
  | x :: xs, y :: ys, hl, h => .cons (h 0 x y rfl rfl) (paired_of (by simpa using hl) fun j a b ha hb => h (j + 1) a b (by simpa using ha) (by simpa using hb))
  | [], _ :: _, hl, _ => by simp at hl
  | _ :: _, [], hl, _ => by simp at hl
theorem paired_get {α β : Type} {R : α → β → Prop} {xs : List α} {ys : List β} (r : Paired R xs ys) : ∀ {j : Nat} {y : β}, ys[j]? = some y → ∃ x, xs[j]? = some x ∧ R x y := by
  induction r with
  | nil => intro j y h; simp at h
  | @cons a b as bs h t ih =>
    intro j y hy
    cases j with
    | zero => exact ⟨a, rfl, by simp at hy; subst hy; exact h⟩
    | succ j => exact ih (by simpa using hy)
theorem call_lItems (hc : X.calm = true) : CallR X (.type "list") rLItems := by
  intro pins s σ H xs us Q I r h
  obtain ⟨p, a, kvs, rfl, hp, ha, q⟩ := h
  obtain rfl := Vals.ref1 r
  have view : s.heap.IsItemsView p a := (show ObjOk X.prog X.w H s.heap p (itemsO p a) from I.hok p _ hp).1
  obtain ⟨z, hd, vs, rel, dd⟩ := dk_of I.hok ha
  have hl : kvs.length = vs.length := Paired.length rel
  obtain ⟨es, ep, raw, esz, ent⟩ := dd.raw
  refine dil_call (I.ok.hd hc) view raw (by omega) fun h' tk acc c as hk hS hal hG hacc => ?_
  have hf : H s.heap.objs.size = none := I.hok.fresh (Nat.le_refl _)
  have nd : as.Nodup := List.Pairwise.imp (fun h => Nat.ne_of_lt h) hG.rise
  have ok : ObjOk X.prog X.w (upd H s.heap.objs.size (.lst (as.map V.ref))) h' s.heap.objs.size (.lst (as.map V.ref)) :=
    ⟨by rw [List.length_map]; omega, as.map Value.ref, c, vals_maps V.ref Value.ref as fun _ _ => rfl, by rw [hS, ← hacc]⟩
  have I2 := I.laid (t' := tk) hk (Nat.le_refl _) ok
  have pr : ∀ (j : Nat) (b : Addr), as[j]? = some b → ∃ kv u1 u2, kvs[j]? = some kv ∧ RelV (kV kv.1) u1 ∧ RelV kv.2 u2 ∧ h'.get? b = some { cls := .type "tuple", data := .seq #[u1, u2] } := by
    intro j b hj
    obtain ⟨hj', e⟩ := hG.pairs j b hj
    have hlt : j < vs.length := by omega
    have hv : vs[j]? = some vs[j] := List.getElem?_eq_getElem hlt
    obtain ⟨kv, ek, r1, r2⟩ := paired_get rel hv
    obtain ⟨e1, e2⟩ := ent j hj' vs[j].1 vs[j].2 hv
    exact ⟨kv, _, _, ek, by rw [r1]; exact relV_key e1, by rw [e2]; exact r2, e⟩
  obtain ⟨H2, I3, g, qt⟩ := takeT (P := fun b ws => ∃ (j : Nat) (kv : L2.Key × V), as[j]? = some b ∧ kvs[j]? = some kv ∧ ws = [kV kv.1, kv.2]) I as _ I2 nd fun b hb => by
    obtain ⟨j, hj⟩ := List.mem_iff_getElem?.mp hb
    obtain ⟨kv, u1, u2, ek, r1, r2, hg⟩ := pr j b hj
    have hbl : s.heap.objs.size < b := hG.above b hb
    refine ⟨Nat.le_of_lt hbl, by rw [upd_ne (Nat.ne_of_gt hbl)]; exact I.hok.fresh (Nat.le_of_lt hbl), [kV kv.1, kv.2], ⟨j, kv, hj, ek, rfl⟩, fun H3 => ⟨(by rw [sizeLine_eq]; show 2 ≤ 16777216; omega), [u1, u2], .cons r1 (.cons r2 .nil), ⟨_, hg, rfl, 0, rfl⟩⟩⟩
  refine ⟨.ref s.heap.objs.size, H2, I3, rfl, q H2 s.heap.objs.size as hf (fun b o e _ => g b o (by rw [upd_ne (ne_of_none e hf)]; exact e)) (g _ _ upd_same) (paired_of (by omega) fun j b kv hj ek => ?_)⟩
  have hbm := List.mem_of_getElem? hj
  obtain ⟨ws, ⟨i, kv', hi, ek', rfl⟩, hH⟩ := qt b hbm
  have eij : i = j := (List.getElem?_inj (List.getElem?_eq_some_iff.mp hi).1 nd).mp (hi.trans hj.symm)
  subst eij
  rw [ek] at ek'
  cases ek'
  exact ⟨I.hok.fresh (Nat.le_of_lt (hG.above b hbm)), hH⟩
end
end FR
set_option Elab.async false
set_option linter.all false
set_option maxRecDepth 100000
/-! enumerate(text) -/
namespace FR
open PySem PySem.Spec PyProof.Rows L2
/-- the signs of a text, each with its place, in new pairs -/
def IteS (z : Str) : It :=
  ⟨fun i _ => i < z.cps.size, fun i H v H' => ∃ T c, v = .ref T ∧ H T = none ∧ H' = upd H T (.tup [.int (i : Nat), .str ⟨#[c]⟩]) ∧ z.cps[i]? = some c, fun i _ => i = z.cps.size⟩
theorem draws_str {prog : Program} {w : World} {A : Around} (hh : A.handled = none) (it : Addr) (x : Str) (t : Tok) :
    Draws prog w A it [it] x.cps.size (fun i v => ∃ c u, x.cps[i]? = some c ∧ v = .str ⟨#[c]⟩ u) (fun i h => h.IsStrIter it (strIterType x) x t i) := by
  rcases (show strIterType x = "str_ascii_iterator" ∨ strIterType x = "str_iterator" by unfold strIterType; split; exact .inl rfl; exact .inr rfl) with e | e
  · rw [e]; exact Draws.strAscii hh it x t
  · rw [e]; exact Draws.strWide hh it x t
theorem turn_enumS {P : Program} {w : World} {K : PySem.W.Frag} {elts : List Expr} {kk : Nat} {tpos : Pos} (z : Str) (t : Tok) (e it : Addr) :
    Turn P w K (.Tuple elts kk tpos) (IteS z) [e, it] e (fun i h => (∃ old, IsEnum h e it ((i : Nat) : Int) old) ∧ h.IsStrIter it (strIterType z) z t i ∧ e ≠ it) where
  mem := by simp
  obj := fun i h st b hb => by
    obtain ⟨⟨old, he⟩, ⟨o, ho, hc, hd⟩, _⟩ := st
    rcases (by simpa using hb : b = e ∨ b = it) with r | r
    · rw [r]; exact ⟨_, he, fun v q => nomatch q⟩
    · rw [r]; exact ⟨o, ho, fun v q => by rw [hd] at q; cases q⟩
  keep := fun i h g st k => by
    obtain ⟨⟨old, he⟩, ⟨o, ho, r⟩, hne⟩ := st
    exact ⟨⟨old, k e (by simp) _ he⟩, ⟨o, k it (by simp) o ho, r⟩, hne⟩
  item := by
    intro X hP hw hK hc i pins s σ H E I hf st hg
    subst hP hw hK
    obtain ⟨⟨old, he⟩, hit, hne⟩ := st
    have hel : e < s.heap.objs.size := Heap.lt_size he
    have hil : it < s.heap.objs.size := by obtain ⟨_, q, _⟩ := id hit; exact Heap.lt_size q
    have D := draws_str (prog := X.prog) (w := X.w) (A := X.A.in1) (show X.A.in1.handled = none from I.ok.hd hc) it z t
    refine wpAny_pyNext_enum_itemD D he hit hg hne (by simpa using hne) fun x g tk px ho hit' hT hsz hk => ?_
    obtain ⟨c, u, ec, rfl⟩ := px
    refine ⟨_, rfl, wpAny_letOwnedTupleGo_enum (s := { s with heap := g, toks := tk + 1 }) ho fun g2 he' sb => ?_⟩
    have hT2 : g2.get? s.heap.objs.size = some { cls := .type "tuple", data := .seq #[.int i tk, .str ⟨#[c]⟩ u] } := (sb.2 _ (Nat.ne_of_gt hel)).trans hT
    have new : ObjOk X.prog X.w (upd H s.heap.objs.size (.tup [.int (i : Nat), .str ⟨#[c]⟩])) g2 s.heap.objs.size (.tup [.int (i : Nat), .str ⟨#[c]⟩]) :=
      ⟨by show 2 ≤ sizeLine; decide, [.int i tk, .str ⟨#[c]⟩ u], .cons ⟨_, rfl⟩ (.cons ⟨_, rfl⟩ .nil), ⟨_, hT2, rfl, _, rfl⟩⟩
    have I1 : Inv X pins σ (upd H s.heap.objs.size (.tup [.int (i : Nat), .str ⟨#[c]⟩])) { s with heap := g2, toks := tk + 1 } :=
      I.turnedNew (ch := [e, it]) (fun b ob hb q => (sb.2 b (fun r => hb (by simp [r]))).trans (hk b ob (fun r => hb (by simp [r])) (fun r => hb (by simp [r])) q)) hf (Nat.le_refl _) new
    refine ⟨.ref s.heap.objs.size, _, I1, rfl, ⟨_, c, rfl, I.hok.fresh (Nat.le_refl _), rfl, ec⟩, ⟨⟨Value.str ⟨#[c]⟩ u, ?_⟩, ?_, hne⟩, fun b hb => ?_⟩
    · rw [show ((i + 1 : Nat) : Int) = (i : Int) + 1 by omega]; exact he'
    · obtain ⟨o, eo, r⟩ := hit'
      exact ⟨o, (sb.2 it (Ne.symm hne)).trans eo, r⟩
    · have hb' : b < s.heap.objs.size := by
        rcases (by simpa using hb : b = e ∨ b = it) with r | r
        · rw [r]; exact hel
        · rw [r]; exact hil
      rw [upd_ne (Nat.ne_of_lt hb')]
      exact (hf b hb).1
  done := by
    intro X hP hw hK hc i pins s σ H E I hf st hg
    subst hP hw hK
    obtain ⟨⟨old, he⟩, hit, hne⟩ := st
    obtain ⟨f0, f1, f2, f3, f4, f5⟩ := hf it (by simp)
    have D := draws_str (prog := X.prog) (w := X.w) (A := X.A.in1) (show X.A.in1.handled = none from I.ok.hd hc) it z t
    have ei : i = z.cps.size := hg
    subst ei
    refine wpAny_pyNext_enum_endD D he hit fun g eb => ⟨rfl, I.turned (t' := s.toks) (fun b o hb q => eb b o hb q) f0 f1 f3 f4 f5⟩
  self := fun A i s Q E st h => let ⟨⟨_, he⟩, _⟩ := st; wpAny_pyIter_enum he h
def iEnumS (ta : TA) : TI := fun σ H R => ta σ H fun vs H1 => ∃ z, vs = [.str z] ∧ R (IteS z) H1
theorem pi_enumS {X : Cx} {e : Expr} {ta : TA} {p pos tpos : Pos} {elts : List Expr} {kk : Nat} (hg : Gl X "enumerate") (hm : X.mg "enumerate" = none) (ha : PA X [e] ta) (hs : starEach [e] X.env = [(false, eval e X.env)] := by rfl) :
    PI X (.Tuple elts kk tpos) (.Call (.Name "enumerate" p) [e] [] pos) (iEnumS ta) := by
  refine ⟨fun pins s σ H R I h => Call_ (ld_blt I hg hm boot_enumerate (PyProof.Rows.callWith_type1 (thn (ha.run pos pins s σ H _ I h) fun us s1 hh => ?_) hs rfl))⟩
  obtain ⟨vs, H1, I1, r1, z, rfl, q⟩ := hh
  obtain ⟨u, rfl, ru⟩ := r1.one
  obtain ⟨t, rfl⟩ := ru
  refine call_enumerate_str fun g he hit hsz hk => wpAny_pyIter_enum he ?_
  have I2 : Inv X pins σ H1 { s1 with heap := g } := I1.kept (t' := s1.toks) hk
  refine ⟨s1.heap.objs.size + 1, [s1.heap.objs.size + 1, s1.heap.objs.size], _, _, H1, rfl, I2, turn_enumS z t (s1.heap.objs.size + 1) s1.heap.objs.size, ⟨⟨.none, he⟩, hit, Nat.succ_ne_self _⟩, fun b hb => ?_, q⟩
  have hle : s1.heap.objs.size ≤ b := by
    rcases (by simpa using hb : b = s1.heap.objs.size + 1 ∨ b = s1.heap.objs.size) with r | r
    · rw [r]; exact Nat.le_add_right _ _
    · rw [r]; exact Nat.le_refl _
  exact I1.fpOk hle (I1.hok.fresh hle)
theorem walk_enumS {z : Str} : Walk (IteS z) z.cps.size (fun _ => True) (YPair (fun i => some (.int (i : Nat))) (fun i => z.cps[i]?.map fun c => .str ⟨#[c]⟩)) :=
  ⟨fun _ _ hi _ => hi, fun _ _ => rfl, fun i H v H' _ _ y => by
    obtain ⟨T, c, r1, r2, r3, r4⟩ := y
    exact ⟨T, .int (i : Nat), .str ⟨#[c]⟩, r1, r2, r3, rfl, by show (z.cps[i]?).map _ = _; rw [r4]; rfl⟩⟩
end FR
set_option Elab.async false
set_option linter.all false
set_option maxRecDepth 100000
/-! a new dict that is walked -/
namespace FR
open PySem PySem.Spec PyProof.Rows L2
def tFrz (t : TE) : TE := fun σ H Q => t σ H fun x H1 => ∃ (d : Addr) (u : HO), x = .ref d ∧ H1 d = some u ∧ Mut (some u) ∧ ∀ od, Q x (upd H1 d (.frz od u))
theorem pe_frz {X : Cx} {e : Expr} {t : TE} (h : PE X e t) : PE X e (tFrz t) := ⟨fun pins s σ H Q I hq => thn (h.run pins s σ H _ I hq) fun v s1 hh => by
  obtain ⟨x, H1, I1, r, d, u, ex, hd, mu, q⟩ := hh
  obtain ⟨od, I2⟩ := I1.lock hd mu
  exact ⟨x, _, I2, r, q od⟩⟩
theorem pe_nev {X : Cx} {e : Expr} : PE X e (fun _ _ _ => False) := ⟨fun _ _ _ _ _ _ h => h.elim⟩
def rNotKd (K : PySem.W.Frag) (d : Addr) : R2 := fun x y H Q => ∃ (z : Str) (r : Option Value), x = .str z ∧ y = .ref d ∧ PySem.W.nsIn K d z = some r ∧ Q (.bl (!r.isSome)) H
theorem op_notKd {X : Cx} {K : PySem.W.Frag} {w : World} {d : Addr} (hk : X.K = K) (hw : X.w = w) (D : ∃ es n, KDict K w d es n) : OpR X (compareOp .NotIn) (rNotKd K d) := by
  subst hk hw
  obtain ⟨es, n, D⟩ := D
  exact op_notIn_kd D
theorem ix_tupK {X : Cx} {K : PySem.W.Frag} (h : X.K = K) : IxR X (rIxT K) := h ▸ ix_tup
/-- what no call reaches -/
theorem never_elim {P : Prop} (h : False) : P := h.elim
end FR
set_option Elab.async false
set_option linter.all false
set_option maxRecDepth 100000
set_option maxHeartbeats 4000000
/-! sets of texts: set(texts), its len, sorted(set) -/
namespace FR
open PySem PySem.Spec PyProof.Rows PySem.Froz
/-- the texts that were met, each once -/
def once (l : List Str) (xs : List Str) : List Str := xs.foldl (fun l x => if x ∈ l then l else x :: l) l
/-- a payload that holds these texts and that can be walked -/
structure Sx (P : Program) (w : World) (D : SD) (l : List Str) : Prop where
  tx : TxOk P w D l
  ris : L2.Ris D.2.2.place.toList
  led : w.params.followText "set-order" = true ∨ D.2.2.led = true
  nd : l.Nodup
section
variable {P : Program} {w : World} {A : Around} {E : Value → Shared → Prop}
theorem Sx.add {D : SD} {l : List Str} {k : Str} (u : Tok) (F : Sx P w D l) (m : k ∉ l) : Sx P w (addTx (hashStr w k) (.str k u) D) (k :: l) := by
  have r1 := L2.layNew_ris D.2.2 D.1 (hashStr w k) (.str k u) F.ris
  have l1 := L2.layNew_led D.2.2 D.1 (hashStr w k) (.str k u)
  have led1 : w.params.followText "set-order" = true ∨ (layNew D.2.2 D.1 (hashStr w k) (.str k u)).2.1.led = true := by rw [l1]; exact F.led
  refine ⟨add_ok u F.tx, ?_, ?_, List.nodup_cons.mpr ⟨m, F.nd⟩⟩
  all_goals
    unfold addTx tailTx
    generalize layNew D.2.2 D.1 (hashStr w k) (.str k u) = Z at r1 led1 ⊢
    obtain ⟨es1, t1, wd, gv⟩ := Z
    dsimp only at r1 led1 ⊢
    by_cases c : t1.plain = true
  all_goals first | rw [if_pos c] | rw [if_neg c]
  all_goals split
  all_goals first
    | exact L2.relayAll_ris _ _ _
    | exact r1
    | exact led1
    | (dsimp only; rw [L2.relayAll_led]; exact led1)
theorem Sx.new {t : SetTable} {ep : Nat} (w : World) (hf : t.fits 0 = true) (hr : L2.Ris t.place.toList) (hl : w.params.followText "set-order" = true ∨ t.led = true) : Sx P w (#[], ep, t) [] := ⟨TxOk.nil hf, hr, hl, List.nodup_nil⟩
theorem fresh_led (w : World) : w.params.followText "set-order" = true ∨ (!w.params.followText "set-order") = true := by
  cases w.params.followText "set-order"
  · exact .inr rfl
  · exact .inl rfl
theorem Sx.fresh (w : World) : Sx P w (#[], 0, .fresh 0 0 (!w.params.followText "set-order")) [] := Sx.new w rfl List.Pairwise.nil (fresh_led w)
/-- the rest of the texts of a source into the set -/
theorem upd_txs {I a : Addr} {fp wr : List Addr} {G : Array GenState → Array GenState → Prop} {n : Nat} {Pv : Nat → Value → Prop} {St : Nat → Shared → Prop} {R : Result → Shared → Prop} {T : String} {xs : List Str}
    (W : WalksS P w A.in1 I fp wr G n Pv St) (na : a ∉ fp) (hn : n = xs.length) (hval : ∀ i v, Pv i v → ∃ x t, xs[i]? = some x ∧ v = .str x t) :
    ∀ (r : List Str) (i : Nat) (D : SD) (l : List Str) (s : Shared), xs.drop i = r → i ≤ n → St i s → s.heap.get? a = some (sObj T D) → Sx P w D l → l.length + r.length < scanBound →
      (∀ (s' : Shared) (D' : SD), Moved (a :: wr) G s s' → s'.heap.get? a = some (sObj T D') → Sx P w D' (once l r) → R (.ok (.ret .none)) s') →
      codeAny (model P w) A (.builtin "set.update.loop" ⟨[.ref a, .ref I], []⟩) R s
  | [], i, D, l, s, dr, hi, st, ha, F, room, q => by
    have e : i = n := by
      have := List.drop_eq_nil_iff.mp dr
      omega
    subst e
    refine codeAny_builtin PyProof.Rows.F.entry_set_update_loop ?_
    rw [Around.under_plainId PyProof.Rows.F.plain_set_update_loop _]
    show wpAny _ A.in1 (pyNext (.ref I) >>= fun _ => _) _ _ s
    refine wpAny_bind (W.done s _ _ st fun s' mv => ?_)
    show wpAny _ A.in1 (ret Value.none) _ _ _
    exact wpAny_pure (q s' D (mv.mono fun b hb => List.mem_cons_of_mem _ hb) (mv.heap a _ (fun h => na (W.sub _ h)) ha) F)
  | c :: r, i, D, l, s, dr, hi, st, ha, F, room, q => by
    have lt : i < xs.length := by
      rcases Nat.lt_or_ge i xs.length with z | z
      · exact z
      · rw [List.drop_eq_nil_iff.mpr z] at dr
        cases dr
    have dr' := List.drop_eq_getElem_cons lt
    rw [dr] at dr'
    have room2 : l.length + (r.length + 1) < scanBound := room
    obtain ⟨ec, dr2⟩ := List.cons.inj dr'
    refine codeAny_builtin PyProof.Rows.F.entry_set_update_loop ?_
    rw [Around.under_plainId PyProof.Rows.F.plain_set_update_loop _]
    show wpAny _ A.in1 (pyNext (.ref I) >>= fun _ => _) _ _ s
    refine wpAny_bind (W.item i s _ _ (by omega) st fun v s1 hv st1 mv => ?_)
    obtain ⟨x, t, ex, rfl⟩ := hval i v hv
    obtain rfl : x = c := by rw [List.getElem?_eq_getElem lt] at ex; rw [ec]; exact (Option.some.inj ex).symm
    have ha1 := mv.heap a _ (fun h => na (W.sub _ h)) ha
    have mv1 : Moved (a :: wr) G s s1 := mv.mono fun b hb => List.mem_cons_of_mem _ hb
    show wpAny _ A.in1 (holding [Value.str x t] (setAdd a (.str x t)) >>= fun _ => _) _ _ _
    refine wpAny_bind (wpAny_holding ?_)
    unfold setAdd
    refine wpAny_holding (wpAny_bind ((strKind P w).pyHash (k := x) (is_str _ _) ?_))
    have on : ∀ {s2 : Shared} {D2 : SD} {l2 : List Str}, St (i + 1) s2 → Moved (a :: wr) G s s2 → s2.heap.get? a = some (sObj T D2) → Sx P w D2 l2 → l2.length ≤ l.length + 1 → once l2 r = once l (x :: r) →
        codeAny (model P w) A (.builtin "set.update.loop" ⟨[.ref a, .ref I], []⟩) R s2 := fun {s2 D2 l2} st2 m2 a2 F2 le e =>
      upd_txs W na hn hval r (i + 1) D2 l2 s2 dr2.symm (by omega) st2 a2 F2 (by omega) fun s' D' m' a' F' => q s' D' (Moved.trans W.gtrans m2 m') a' (by rw [← e]; exact F')
    by_cases m : x ∈ l
    · refine add_there (s := { s1 with toks := s1.toks + 1 }) ha1 F.tx m (by omega) ?_
      refine wpAny_pure ⟨plainId_quiet PyProof.Rows.F.plain_set_update_loop _, on (W.frame _ s1 s1.heap _ st1 (Nat.le_succ _) fun b _ o e => e) (mv1.then_heap (Nat.le_succ _) fun b o _ e => e) ha1 F (by omega) ?_⟩
      show once l r = once l (x :: r)
      unfold once
      rw [List.foldl_cons, if_pos m]
    · refine add_x (l := l) (D := D) (s := { s1 with toks := s1.toks + 1 }) ha1 F.tx m (by omega) ?_
      refine wpAny_pure ⟨plainId_quiet PyProof.Rows.F.plain_set_update_loop _, on (W.frame _ s1 _ _ st1 (Nat.le_succ _) fun b hb o e => ?_) (mv1.then_heap (Nat.le_succ _) fun b o hb e => ?_) (get_upd _ ha1 rfl) (F.add t m) (Nat.le_refl _) ?_⟩
      · exact PySem.Heap.get?_update_of_ne _ (fun h : a = b => na (by rw [h]; exact hb)) e
      · exact PySem.Heap.get?_update_of_ne _ (fun h : a = b => hb (by rw [h]; exact List.mem_cons_self ..)) e
      · show once (x :: l) r = once l (x :: r)
        unfold once
        rw [List.foldl_cons, if_neg m]
/-- what set(xs) leaves -/
abbrev SetLeft (P : Program) (w : World) (s : Shared) (xs : List Str) (Q : Value → Shared → Prop) : Prop :=
  ∀ (h' : Heap) (tk : Nat) (D : SD), h'.get? s.heap.objs.size = some (sObj "set" D) → Sx P w D (once [] xs) → (∀ b o, s.heap.get? b = some o → h'.get? b = some o) → Q (.ref s.heap.objs.size) { s with heap := h', toks := tk }
theorem call_set_L {s : Shared} {p : Addr} {items : Array Value} {xs : List Str} {Q : Value → Shared → Prop} (hh : A.handled = none) (hp : s.heap.IsList p items) (hx : StrsAre items.toList xs) (hb : xs.length < scanBound)
    (h : SetLeft P w s xs Q) : wpAny (model P w) A (call (.type "set") [.ref p]) Q E s := by
  have hsz : items.size = xs.length := by
    have := hx.length
    rw [Array.length_toList] at this
    exact this
  obtain ⟨c, tl, hmro⟩ := PySem.F.called_set.mro
  have hmade := PySem.F.called_set.made
  have hsub := PySem.F.called_set.sub
  refine wpAny_call (codeAny_of_tree ?_)
  show wpAny _ _ (callAny (.type "set") _) _ _ _
  refine wpAny_pure ⟨Code.quiet_builtin _ (by decide +kernel), codeAny_builtin PySem.F.entry_type_call ?_⟩
  rw [Around.under_plain (weight_type_call_type "set" [.ref p] []) rfl]
  have h1 := PySem.F.called_set.notType
  have h2 := PySem.F.called_set.canCreate
  have hct := PySem.F.typeCall_set_1 (.ref p)
  repeat (any_goals (first | assumption | wp_step))
  let S0 : Obj := { cls := .type "set", dict := none, data := .set #[] 0 (.fresh 0 0 (!w.params.followText "set-order")) }
  refine codeAny_mono (L2.code_set_led1 (.ref p) (E := E) (Q₁ := fun obj s1 => obj = .ref s.heap.objs.size ∧ s1 = { s with heap := s.heap.push S0 }) ⟨rfl, rfl⟩) fun r s1 hr => ?_
  match r, hr with
  | .error e, hr => exact hr
  | .ok (.ret obj), hr =>
    obtain ⟨rfl, rfl⟩ := hr
    have hS : (s.heap.push S0).get? s.heap.objs.size = some S0 := Heap.get?_push_size _ rfl
    have hT : Shared.TypeIs { s with heap := s.heap.push S0 } (.ref s.heap.objs.size) "set" := ⟨_, hS, rfl⟩
    have hli := PySem.F.called_set.init.lookup
    have hbi := PySem.F.called_set.init.bind (.ref s.heap.objs.size)
    repeat (any_goals (first | assumption | wp_step))
    refine codeAny_mono (codeAny_call_builtin (R := wants (fun r s2 => r = .none ∧ ∃ (h' : Heap) (tk : Nat) (D : SD), s2 = { s with heap := h', toks := tk } ∧ h'.get? s.heap.objs.size = some (sObj "set" D) ∧ Sx P w D (once [] xs) ∧
      (∀ b o, s.heap.get? b = some o → h'.get? b = some o)) E) PySem.F.called_set.init.plain PySem.F.entry_set_init (check_set_init_1 hT ?_)) fun r2 s2 hr2 => ?_
    · have hp1 : (s.heap.push S0).IsList p items := hp.push _
      obtain ⟨ol, hol, hcl, nl, hdl⟩ := hp
      obtain ⟨ocls, odict, odata, oslots⟩ := ol
      simp only at hcl hdl
      subst hcl; subst hdl
      have hol' := Heap.get?_push_of_some S0 hol
      have hsls := PySem.F.sub_list_set
      have hslf := PySem.F.sub_list_frozenset
      have hne : (Value.type "list" == Value.type "dict") = false := by decide
      unfold Builtin.«set.__init__» noKeywords Builtin.Frozenset.updateFrom
      generalize hPI : pyIter = PI
      wp_walk
      subst hPI
      refine wpAny_pyIter_list hp1 ?_
      refine wpAny_bind (wpAny_runValue ?_)
      have hz1 : (s.heap.push S0).objs.size = s.heap.objs.size + 1 := Heap.size_push ..
      have hps : p < s.heap.objs.size := Heap.lt_size hol
      have nI : p ≠ (s.heap.push S0).objs.size := Nat.ne_of_lt (by rw [hz1]; exact Nat.lt_succ_of_lt hps)
      have nS : s.heap.objs.size ≠ (s.heap.push S0).objs.size := Nat.ne_of_lt (by rw [hz1]; exact Nat.lt_succ_self _)
      refine upd_txs (T := "set") (xs := xs) ((Walks.list (by simp [hh]) _ p nI items).toS) (a := s.heap.objs.size) ?_ hsz (fun i v hv => ?_) xs 0 (#[], 0, .fresh 0 0 (!w.params.followText "set-order")) [] _ rfl (Nat.zero_le _)
        ⟨⟨_, Heap.get?_push_size _ rfl, rfl, rfl⟩, hp1.push _⟩ (Heap.get?_push_of_some _ hS) (Sx.fresh w) (by simpa using hb) fun s' D' mv a' F' => ?_
      · simp only [List.mem_cons, List.not_mem_nil, or_false, not_or]
        exact ⟨nS, Nat.ne_of_gt hps⟩
      · obtain ⟨t, e⟩ := SS.strs_at hx i v (by rw [Array.getElem?_toList]; exact hv)
        have hi : i < xs.length := by rw [← hsz]; exact (Array.getElem?_eq_some_iff.mp hv).1
        refine ⟨xs[i], t, List.getElem?_eq_getElem hi, ?_⟩
        rw [e, List.getD_eq_getElem?_getD, List.getElem?_eq_getElem hi]
        rfl
      · obtain ⟨h', g2, d', tk', os'⟩ := s'
        have eg : g2 = s.gens := mv.gens
        have ed : d' = s.drawn := mv.drawn
        have eo : os' = s.os := mv.os
        subst eg; subst ed; subst eo
        show wpAny _ _ _ _ _ _
        refine wpAny_pure ?_
        show wpAny _ _ (ret Value.none) _ _ _
        refine wpAny_pure ⟨rfl, h', tk', D', rfl, a', F', fun b o e => ?_⟩
        have hb0 : b < s.heap.objs.size := Heap.lt_size e
        exact mv.heap b o (by simp only [List.mem_cons, List.not_mem_nil, or_false, not_or]; exact ⟨Nat.ne_of_lt hb0, Nat.ne_of_lt (by rw [hz1]; exact Nat.lt_succ_of_lt hb0)⟩) (Heap.get?_push_of_some _ (Heap.get?_push_of_some _ e))
    · match r2, hr2 with
      | .error e, hr2 => exact hr2
      | .ok (.ret r), hr2 =>
        obtain ⟨rfl, h', tk, D, rfl, g1, g2, g4⟩ := hr2
        repeat (any_goals (first | assumption | wp_step))
        exact h _ _ _ g1 g2 g4
      | .ok .next, hr2 => exact hr2.elim
      | .ok .brk, hr2 => exact hr2.elim
      | .ok .cont, hr2 => exact hr2.elim
  | .ok .next, hr => exact hr.elim
  | .ok .brk, hr => exact hr.elim
  | .ok .cont, hr => exact hr.elim
theorem call_set_T {s : Shared} {p : Addr} {items : Array Value} {xs : List Str} {Q : Value → Shared → Prop} (hh : A.handled = none) (hp : s.heap.IsTuple p items) (hx : StrsAre items.toList xs) (hb : xs.length < scanBound)
    (h : SetLeft P w s xs Q) : wpAny (model P w) A (call (.type "set") [.ref p]) Q E s := by
  have hsz : items.size = xs.length := by
    have := hx.length
    rw [Array.length_toList] at this
    exact this
  obtain ⟨c, tl, hmro⟩ := PySem.F.called_set.mro
  have hmade := PySem.F.called_set.made
  have hsub := PySem.F.called_set.sub
  refine wpAny_call (codeAny_of_tree ?_)
  show wpAny _ _ (callAny (.type "set") _) _ _ _
  refine wpAny_pure ⟨Code.quiet_builtin _ (by decide +kernel), codeAny_builtin PySem.F.entry_type_call ?_⟩
  rw [Around.under_plain (weight_type_call_type "set" [.ref p] []) rfl]
  have h1 := PySem.F.called_set.notType
  have h2 := PySem.F.called_set.canCreate
  have hct := PySem.F.typeCall_set_1 (.ref p)
  repeat (any_goals (first | assumption | wp_step))
  let S0 : Obj := { cls := .type "set", dict := none, data := .set #[] 0 (.fresh 0 0 (!w.params.followText "set-order")) }
  refine codeAny_mono (L2.code_set_led1 (.ref p) (E := E) (Q₁ := fun obj s1 => obj = .ref s.heap.objs.size ∧ s1 = { s with heap := s.heap.push S0 }) ⟨rfl, rfl⟩) fun r s1 hr => ?_
  match r, hr with
  | .error e, hr => exact hr
  | .ok (.ret obj), hr =>
    obtain ⟨rfl, rfl⟩ := hr
    have hS : (s.heap.push S0).get? s.heap.objs.size = some S0 := Heap.get?_push_size _ rfl
    have hT : Shared.TypeIs { s with heap := s.heap.push S0 } (.ref s.heap.objs.size) "set" := ⟨_, hS, rfl⟩
    have hli := PySem.F.called_set.init.lookup
    have hbi := PySem.F.called_set.init.bind (.ref s.heap.objs.size)
    repeat (any_goals (first | assumption | wp_step))
    refine codeAny_mono (codeAny_call_builtin (R := wants (fun r s2 => r = .none ∧ ∃ (h' : Heap) (tk : Nat) (D : SD), s2 = { s with heap := h', toks := tk } ∧ h'.get? s.heap.objs.size = some (sObj "set" D) ∧ Sx P w D (once [] xs) ∧
      (∀ b o, s.heap.get? b = some o → h'.get? b = some o)) E) PySem.F.called_set.init.plain PySem.F.entry_set_init (check_set_init_1 hT ?_)) fun r2 s2 hr2 => ?_
    · have hp1 : (s.heap.push S0).IsTuple p items := hp.push _
      obtain ⟨ol, hol, hcl, nl, hdl⟩ := hp
      obtain ⟨ocls, odict, odata, oslots⟩ := ol
      simp only at hcl hdl
      subst hcl; subst hdl
      have hol' := Heap.get?_push_of_some S0 hol
      have hsls := PySem.F.sub_tuple_set
      have hslf := PySem.F.sub_tuple_frozenset
      have hne : (Value.type "tuple" == Value.type "dict") = false := by decide
      unfold Builtin.«set.__init__» noKeywords Builtin.Frozenset.updateFrom
      generalize hPI : pyIter = PI
      wp_walk
      subst hPI
      refine wpAny_pyIter_tuple hp1 ?_
      refine wpAny_bind (wpAny_runValue ?_)
      have hz1 : (s.heap.push S0).objs.size = s.heap.objs.size + 1 := Heap.size_push ..
      have hps : p < s.heap.objs.size := Heap.lt_size hol
      have nI : p ≠ (s.heap.push S0).objs.size := Nat.ne_of_lt (by rw [hz1]; exact Nat.lt_succ_of_lt hps)
      have nS : s.heap.objs.size ≠ (s.heap.push S0).objs.size := Nat.ne_of_lt (by rw [hz1]; exact Nat.lt_succ_self _)
      refine upd_txs (T := "set") (xs := xs) ((Walks.tuple (by simp [hh]) _ p nI items).toS) (a := s.heap.objs.size) ?_ hsz (fun i v hv => ?_) xs 0 (#[], 0, .fresh 0 0 (!w.params.followText "set-order")) [] _ rfl (Nat.zero_le _)
        ⟨⟨_, Heap.get?_push_size _ rfl, rfl, rfl⟩, hp1.push _⟩ (Heap.get?_push_of_some _ hS) (Sx.fresh w) (by simpa using hb) fun s' D' mv a' F' => ?_
      · simp only [List.mem_cons, List.not_mem_nil, or_false, not_or]
        exact ⟨nS, Nat.ne_of_gt hps⟩
      · obtain ⟨t, e⟩ := SS.strs_at hx i v (by rw [Array.getElem?_toList]; exact hv)
        have hi : i < xs.length := by rw [← hsz]; exact (Array.getElem?_eq_some_iff.mp hv).1
        refine ⟨xs[i], t, List.getElem?_eq_getElem hi, ?_⟩
        rw [e, List.getD_eq_getElem?_getD, List.getElem?_eq_getElem hi]
        rfl
      · obtain ⟨h', g2, d', tk', os'⟩ := s'
        have eg : g2 = s.gens := mv.gens
        have ed : d' = s.drawn := mv.drawn
        have eo : os' = s.os := mv.os
        subst eg; subst ed; subst eo
        show wpAny _ _ _ _ _ _
        refine wpAny_pure ?_
        show wpAny _ _ (ret Value.none) _ _ _
        refine wpAny_pure ⟨rfl, h', tk', D', rfl, a', F', fun b o e => ?_⟩
        have hb0 : b < s.heap.objs.size := Heap.lt_size e
        exact mv.heap b o (by simp only [List.mem_cons, List.not_mem_nil, or_false, not_or]; exact ⟨Nat.ne_of_lt hb0, Nat.ne_of_lt (by rw [hz1]; exact Nat.lt_succ_of_lt hb0)⟩) (Heap.get?_push_of_some _ (Heap.get?_push_of_some _ e))
    · match r2, hr2 with
      | .error e, hr2 => exact hr2
      | .ok (.ret r), hr2 =>
        obtain ⟨rfl, h', tk, D, rfl, g1, g2, g4⟩ := hr2
        repeat (any_goals (first | assumption | wp_step))
        exact h _ _ _ g1 g2 g4
      | .ok .next, hr2 => exact hr2.elim
      | .ok .brk, hr2 => exact hr2.elim
      | .ok .cont, hr2 => exact hr2.elim
  | .ok .next, hr => exact hr.elim
  | .ok .brk, hr => exact hr.elim
  | .ok .cont, hr => exact hr.elim

/-- the set at a, as the walk knows it -/
def SetS (P : Program) (w : World) (a : Addr) (l : List Str) : L2.HO := .ext fun h => ∃ D, h.get? a = some (sObj "set" D) ∧ Sx P w D l
end
section
open L2
variable {X : Cx}
theorem setS_new {P : Program} {w : World} {H : Hp} {h : Heap} {a : Addr} {D : SD} {l : List Str} (g : h.get? a = some (sObj "set" D)) (F : Sx P w D l) : ObjOk P w H h a (SetS P w a l) :=
  ⟨⟨D, g, F⟩, ⟨_, g⟩, fun _ _ ⟨D', g', F'⟩ k => ⟨D', k _ g', F'⟩⟩
theorem setS_get {pins : List (Addr × Obj)} {σ : L2.St} {H : Hp} {s : Shared} {a : Addr} {l : List Str} (I : Inv X pins σ H s) (ha : H a = some (SetS X.prog X.w a l)) : ∃ D, s.heap.get? a = some (sObj "set" D) ∧ Sx X.prog X.w D l := (I.hok a _ ha).1
/-- the texts of a list or a tuple -/
def TxSq (K : PySem.W.Frag) (H : Hp) (x : V) (xs : List Str) : Prop := ∃ p, x = .ref p ∧ (SqL K H p (xs.map V.str) ∨ SqT K H p (xs.map V.str))
theorem call_set_txs {A : Around} {E : Value → Shared → Prop} {pins : List (Addr × Obj)} {σ : L2.St} {H : Hp} {s : Shared} {x : V} {u : Value} {xs : List Str} {Q : Value → Shared → Prop} (I : Inv X pins σ H s) (hh : A.handled = none) (r : RelV x u) (hx : TxSq X.K H x xs) (hb : xs.length < scanBound)
    (h : SetLeft X.prog X.w s xs Q) : wpAny (model X.prog X.w) A (call (.type "set") [u]) Q E s := by
  obtain ⟨p, rfl, hq | hq⟩ := hx
  · cases r
    obtain ⟨its, rv, pl, hz⟩ := I.list hq
    exact call_set_L hh pl.isList (by simpa using rv.strs) hb h
  · cases r
    obtain ⟨its, rv, pl, hz⟩ := I.tuple hq
    exact call_set_T hh pl (by simpa using rv.strs) hb h
/-- set(xs) -/
def rSetS (K : PySem.W.Frag) (P : Program) (w : World) : List V → Hp → VK → Prop := fun vs H Q => ∃ x xs, vs = [x] ∧ TxSq K H x xs ∧ xs.length < 64 ∧ ∀ a, H a = none → Q (.ref a) (upd H a (SetS P w a (once [] xs)))
theorem cr_setS (hc : X.calm = true) : CallR X (.type "set") (rSetS X.K X.prog X.w) := by
  intro pins s σ H vs us Q I r h
  obtain ⟨x, xs, rfl, hx, h64, q⟩ := h
  obtain ⟨u, rfl, rx⟩ := vals1 r
  refine call_set_txs I (I.ok.hd hc) rx hx (by unfold scanBound; omega) fun h' tk D g F k => ?_
  exact ⟨.ref _, upd H s.heap.objs.size (SetS X.prog X.w s.heap.objs.size (once [] xs)), I.laid (t' := tk) k (Nat.le_refl _) (setS_new g F), rfl, q _ (I.hok.fresh (Nat.le_refl _))⟩
/-- len(set(e)) -/
def tLenSetS (K : PySem.W.Frag) (ta : TE) : TE := fun σ H Q => ta σ H fun x H1 => ∃ xs, TxSq K H1 x xs ∧ xs.length < 64 ∧ Q (.int ((once [] xs).length : Nat)) H1
theorem once_len : ∀ (xs l : List Str), (once l xs).length ≤ l.length + xs.length
  | [], l => Nat.le_refl _
  | c :: r, l => by
    unfold once
    rw [List.foldl_cons]
    have h1 := once_len r l
    have h2 := once_len r (c :: l)
    unfold once at h1 h2
    split
    · simp only [List.length_cons] at h1 ⊢; omega
    · simp only [List.length_cons] at h2 ⊢; omega
theorem once_mem : ∀ (xs l : List Str) (x : Str), x ∈ once l xs ↔ x ∈ l ∨ x ∈ xs
  | [], l, x => by simp [once]
  | c :: r, l, x => by
    unfold once
    rw [List.foldl_cons]
    have h1 := once_mem r l x
    have h2 := once_mem r (c :: l) x
    unfold once at h1 h2
    split
    · rename_i m
      rw [h1, List.mem_cons]
      constructor
      · rintro (z | z)
        · exact .inl z
        · exact .inr (.inr z)
      · rintro (z | rfl | z)
        · exact .inl z
        · exact .inl m
        · exact .inr z
    · rw [h2, List.mem_cons, List.mem_cons, or_assoc, or_left_comm]
theorem once_nodup : ∀ (xs l : List Str), l.Nodup → (once l xs).Nodup
  | [], l, h => h
  | c :: r, l, h => by
    unfold once
    rw [List.foldl_cons]
    split
    · exact once_nodup r l h
    · rename_i m
      exact once_nodup r (c :: l) (List.nodup_cons.mpr ⟨m, h⟩)
theorem once_free : ∀ (xs l : List Str), xs.Nodup → (∀ x ∈ xs, x ∉ l) → (once l xs).length = l.length + xs.length
  | [], l, _, _ => rfl
  | c :: r, l, h, d => by
    obtain ⟨h1, h2⟩ := List.nodup_cons.mp h
    unfold once
    rw [List.foldl_cons, if_neg (d c (List.mem_cons_self ..))]
    have := once_free r (c :: l) h2 fun x hx m => by
      rcases List.mem_cons.mp m with z | z
      · exact h1 (z ▸ hx)
      · exact d x (List.mem_cons_of_mem _ hx) z
    unfold once at this
    rw [this, List.length_cons, List.length_cons]
    omega
theorem pe_lenSetS {a : Expr} {ta : TE} {p p2 q pos : Pos} (hg : Gl X "len") (hm : X.mg "len" = none) (hg2 : Gl X "set") (hm2 : X.mg "set" = none) (ha : PE X a ta) (hc : X.calm = true := by rfl)
    (na : starEach [a] X.env = (false, eval a X.env) :: starEach [] X.env := by rfl) : PE X (.Call (.Name "len" p) [.Call (.Name "set" p2) [a] [] q] [] pos) (tLenSetS X.K ta) := by
  refine ⟨fun pins s σ H Q I h => ?_⟩
  refine Call_ (ld_blt I hg hm boot_len ?_)
  refine PyProof.Rows.callWith_builtin1 (PyProof.Rows.args_cons ?_ rfl) rfl rfl
  refine Call_ (ld_blt I hg2 hm2 (show bootBuiltins ("set" : Str) = some (.type "set") by decide +kernel) ?_)
  refine PyProof.Rows.callWith_type1 (PyProof.Rows.args_cons (thn (ha.run pins s σ H _ I h) fun v s1 ⟨x, H1, I1, r1, q1⟩ => PyProof.Rows.args_nil ?_) na) na rfl
  obtain ⟨xs, hx, h64, q1⟩ := q1
  refine call_set_txs I1 (I1.ok.hd hc) r1 hx (by unfold scanBound; omega) fun h' tk D g1 F k => ?_
  refine PyProof.Rows.args_nil ?_
  have I2 : Inv X pins σ H1 { s1 with heap := h', toks := tk } := I1.kept k
  have hn : D.1.size = (once [] xs).length := F.tx.sz
  have hl := once_len xs []
  simp only [List.length_nil, Nat.zero_add] at hl
  exact call_len_set (es := D.1) (ep := D.2.1) (t := D.2.2) g1 ⟨rfl, rfl, rfl⟩ rfl F.tx.fit (by rw [hn]; omega) ⟨.int (once [] xs).length, H1, I2.tok _, ⟨_, by rw [hn]⟩, q1⟩
/-- sorted(the set) -/
def rSortSet (P : Program) (w : World) : List V → Hp → VK → Prop := fun vs H Q => ∃ a l, vs = [.ref a] ∧ H a = some (SetS P w a l) ∧ l.length < 64 ∧ ∀ (ys : List Str) (p : Addr), ys.Perm l → sortedS ys = true → H p = none → Q (.ref p) (upd H p (.lst (ys.map V.str)))
theorem perm_by : ∀ (l ks : List Str), l.Nodup → (∀ x ∈ l, x ∈ ks) → ks.length ≤ l.length → l.Perm ks
  | [], ks, _, _, h => by
    rw [List.length_eq_zero_iff.mp (Nat.le_zero.mp h)]
  | c :: r, ks, d, m, h => by
    obtain ⟨d1, d2⟩ := List.nodup_cons.mp d
    have hc := m c (List.mem_cons_self ..)
    have hl := List.length_erase_of_mem hc
    have := perm_by r (ks.erase c) d2 (fun x hx => (List.mem_erase_of_ne (fun e : x = c => d1 (by rw [← e]; exact hx))).mpr (m x (List.mem_cons_of_mem _ hx))) (by rw [hl]; simp only [List.length_cons] at h; omega)
    exact (this.cons c).trans (List.perm_cons_erase hc).symm
theorem txs_of : ∀ (vs : List Value), (∀ v ∈ vs, ∃ x t, v = Value.str x t) → ∃ ks : List Str, StrsAre vs ks
  | [], _ => ⟨[], .nil⟩
  | v :: vs, h => by
    obtain ⟨ks, hk⟩ := txs_of vs fun x hx => h x (List.mem_cons_of_mem _ hx)
    obtain ⟨x, t, rfl⟩ := h v (List.mem_cons_self ..)
    exact ⟨x :: ks, .cons x t hk⟩
theorem strs_mem : ∀ {vs : List Value} {ks : List Str}, StrsAre vs ks → ∀ x t, Value.str x t ∈ vs → x ∈ ks
  | _, _, .nil, x, t, h => absurd h (List.not_mem_nil)
  | _, _, .cons y u r, x, t, h => by
    rcases List.mem_cons.mp h with e | m
    · cases e; exact List.mem_cons_self ..
    · exact List.mem_cons_of_mem _ (strs_mem r x t m)
theorem cr_sortSet (hc : X.calm = true) : CallR X (.builtin "sorted") (rSortSet X.prog X.w) := by
  intro pins s σ H vs us Q I r h
  obtain ⟨a, l, rfl, ha, h64, q⟩ := h
  obtain ⟨D, g, F⟩ := setS_get I ha
  rw [Vals.ref1 r]
  have sz : D.1.size = l.length := F.tx.sz
  refine Calls.call_function_entry PyProof.Rows.kind_sorted PyProof.Rows.plain_sorted PyProof.Rows.entry_sorted (PyProof.Rows.args_sorted1 _) ?_
  unfold Builtin.«sorted»
  refine wpAny_bind (m := checkCount "sorted" 1 1 _) (wpAny_pure ?_)
  refine wpAny_bind (L2.collect_set (A := X.A.in1) (es := D.1) (ep := D.2.1) (t := D.2.2) (I.ok.hd hc) ⟨_, g, rfl, rfl⟩ F.tx.fit (by unfold scanBound; omega) F.ris F.led fun s1 out k1 hz g1 o1 pm => ?_)
  have texts : ∀ v ∈ out, ∃ x t, v = Value.str x t := fun v hv => by
    obtain ⟨e, he, rfl⟩ := List.mem_map.mp (pm.mem_iff.mp hv)
    obtain ⟨⟨k, hk, _⟩, _⟩ := F.tx.el e he
    obtain ⟨t, ev⟩ := Value.isStrOf_shape (x := k) (v := e.2) hk
    exact ⟨k, t, ev⟩
  obtain ⟨ks, hS⟩ := txs_of out texts
  have hol : out.length = l.length := by rw [pm.length_eq, List.length_map, Array.length_toList]; exact sz
  have kp : l.Perm ks := perm_by l ks F.nd (fun x hx => by
    obtain ⟨e, he, hk⟩ := (F.tx.mem x).mp hx
    obtain ⟨t, ev⟩ := Value.isStrOf_shape (x := x) (v := e.2) hk
    exact strs_mem hS x t (by rw [← ev]; exact pm.mem_iff.mpr (List.mem_map_of_mem he))) (by rw [← hS.length, hol]; exact Nat.le_refl _)
  have hlen0 : out.length < 64 := by rw [hol]; exact h64
  have I1 : Inv X pins σ H s1 := I.call' (ch := []) o1 (Un.kept k1) (I.hok.kept k1) (by rw [g1]; exact I.bare) (fun _ z => nomatch z)
  refine wpAny_bind (wpAny_newList ?_ (by rw [sizeLine_eq]; omega))
  have hoL : (s1.heap.push (seqObj "list" out.toArray 0)).get? s1.heap.objs.size = some (seqObj "list" out.toArray 0) := Heap.get?_push_size _ rfl
  refine wpAny_bind (wpAny_holding (wpAny_call_entry PyProof.Rows.slot_list_sort ⟨_, hoL, rfl⟩ PyProof.Rows.entry_list_sort
    (list_sort_treeK strKind_oneLt (s := { s1 with heap := s1.heap.push (seqObj "list" out.toArray 0) }) hoL hS.keysOf (fun v₁ v₂ rest e => keyKind_strs (by rw [← e]; exact hS)) hlen0 fun st' hp hs => ⟨_, rfl, ?_⟩)
    (PyProof.Rows.args_list_sort _)))
  obtain ⟨ys, p1, p2, p3⟩ := sorted_out_str hS hp hs
  obtain ⟨e', he'⟩ := PyProof.Rows.sortedHeap_at (vs := out) (out := (arrOf st').map (·.2)) hoL
  have hlen : (ys.map V.str).length ≤ sizeLine := by
    rw [List.length_map, p2.length_eq, kp.symm.length_eq]
    exact Nat.le_trans (Nat.le_of_lt h64) (by decide)
  refine wpAny_pure ⟨_, rfl, .ref s1.heap.objs.size, upd H s1.heap.objs.size (.lst (ys.map V.str)), I1.laid (t' := s1.toks) (fun b u e => ?_) (Nat.le_refl _)
    (show ObjOk X.prog X.w _ _ _ (.lst (ys.map V.str)) from ⟨hlen, ((arrOf st').map (·.2)).toList, e', vals_of_strs p1, by rw [Array.toArray_toList]; exact he'⟩), rfl, q ys _ (p2.trans kp.symm) p3 (I1.hok.fresh (Nat.le_refl _))⟩
  have hb : b < s1.heap.objs.size := Heap.lt_size e
  rw [PyProof.Rows.sortedHeap_old (Nat.ne_of_lt hb) (by rw [size_push']; exact Nat.lt_succ_of_lt hb)]
  exact Heap.get?_push_of_some _ e
end
end FR
set_option Elab.async false
set_option linter.all false
set_option maxRecDepth 100000
set_option maxHeartbeats 4000000
/-! {elt for t0 in i0 for t1 in i1}: a set of texts by two clauses -/
namespace FR
open PySem PySem.Spec PyProof.Rows PySem.Froz L2
abbrev Sl := L2.St
/-- one turn of a clause without tests: B is what it does with an item -/
def turnOf (p : Pos) (tg : Expr) (it : Value) (env : Env) (B : Sem Unit) (ag : Sem Fin) : Sem Fin := do
  standAt p
  match ← pyNext it with
  | none => pure (.done .next)
  | some v =>
    letOwnedTupleGo tg it v
    assign tg env v
    B
    ag
theorem turn_1 (elt t0 i0 t1 i1 : Expr) (scope : Scope) (pos : Pos) (it acc : Value) (env : Env) :
    compTurn (.SetComp elt [⟨t0, i0, [], 0⟩, ⟨t1, i1, [], 0⟩] scope pos) 1 it acc env =
      turnOf i1.pos t1 it env (do let v ← eval elt env; standAt elt.pos; let _ ← call (.builtin "set.add") [acc, v]) (again (.compLoop (.SetComp elt [⟨t0, i0, [], 0⟩, ⟨t1, i1, [], 0⟩] scope pos) 1 it acc env)) := rfl
theorem turn_0 (elt t0 i0 t1 i1 : Expr) (scope : Scope) (pos : Pos) (it acc : Value) (env : Env) :
    compTurn (.SetComp elt [⟨t0, i0, [], 0⟩, ⟨t1, i1, [], 0⟩] scope pos) 0 it acc env =
      turnOf i0.pos t0 it env (do
        let x ← eval i1 env
        standAt i1.pos
        let x ← foldedSetIterable i1 env x
        let _ ← runOwn (.compStart (.SetComp elt [⟨t0, i0, [], 0⟩, ⟨t1, i1, [], 0⟩] scope pos) 1 (← holding [x] (pyIter x)) acc env) env) (again (.compLoop (.SetComp elt [⟨t0, i0, [], 0⟩, ⟨t1, i1, [], 0⟩] scope pos) 0 it acc env)) := by
  unfold turnOf
  simp only [bind_assoc, pure_bind]
  rfl
/-- the slots of τ know what those of σ know -/
def Kn (σ τ : Sl) : Prop := τ.length = σ.length ∧ ∀ (j : Nat) v, σ[j]? = some (some v) → τ[j]? = some (some v)
theorem kn_wipe {σ τ : Sl} {vs : List Nat} (h : wipe τ vs = wipe σ vs) : Kn (wipe σ vs) τ := ⟨by rw [← h, wipe_length], fun j v e => by rw [← h] at e; exact (wipe_some e).1⟩
theorem kn_in {σ τ : Sl} {vs ws : List Nat} (h : wipe τ vs = wipe σ vs) (sub : ∀ i ∈ ws, i ∈ vs) : Kn (wipe σ vs) (wipe τ ws) := ⟨by rw [← h, wipe_length, wipe_length], fun j v e => by
  rw [← h] at e
  obtain ⟨e1, e2⟩ := wipe_some e
  rw [wipe_out fun z => e2 (sub j z)]
  exact e1⟩
theorem Inv.known {X : Cx} {pins : List (Addr × Obj)} {σ τ : Sl} {H : Hp} {s : Shared} (I : Inv X pins τ H s) (k : Kn σ τ) : Inv X pins σ H s := I.weak k.1.symm k.2
section
variable {Y : Cx}
/-- what one turn needs -/
def Round (J : It) (g : TG) (σ0 : Sl) (B : Sl → Hp → (Hp → Prop) → Prop) (Qd : Hp → Prop) (W : Nat → Nat → Hp → Prop) : Prop := ∀ i m H, W i m H →
  (J.stop i H ∧ Qd H) ∨ (J.go i H ∧ ∃ Nx : Hp → Prop, (∀ H', Nx H' → ∃ m', m' < m ∧ W (i + 1) m' H') ∧ ∀ x H', J.yld i H x H' → g x σ0 H' fun σ2 H2 => B σ2 H2 Nx)
theorem clause {k : Nat} {e tg elt : Expr} {gens : List Comprehension} {scope : Scope} {pos p : Pos} {g : TG} {B : Sem Unit} {Bt : Sl → Hp → (Hp → Prop) → Prop} {it D : Addr} {fp : List Addr} {tn : Nat → Heap → Prop} {J : It} {Qd : Hp → Prop} {W : Nat → Nat → Hp → Prop} {pins : List (Addr × Obj)} {σ0 : Sl} {R : Result → Shared → Prop}
    (he : e = .SetComp elt gens scope pos) (hc : Y.calm = true) (hx : Y.xe = fun _ _ => False) (hq : (Code.compLoop e k (.ref it) (.ref D) Y.env).quiet = true) (eq : compTurn e k (.ref it) (.ref D) Y.env = turnOf p tg (.ref it) Y.env B (again (.compLoop e k (.ref it) (.ref D) Y.env)))
    (T : Turn Y.prog Y.w Y.K tg J fp it tn) (pg : PG Y tg g)
    (body : ∀ (pins' : List (Addr × Obj)) (s : Shared) (σ2 : Sl) (H : Hp) (Nx : Hp → Prop), Inv Y pins' σ2 H s → Bt σ2 H Nx → wpAny (model Y.prog Y.w) Y.A B (fun _ s' => ∃ σ3 H', Inv Y pins' σ3 H' s' ∧ Kn σ0 σ3 ∧ Nx H') (fun _ _ => False) s)
    (rd : Round J g σ0 Bt Qd W) (hR : ∀ s' H', Inv Y pins σ0 H' s' → Qd H' → R (.ok .next) s')
    {m : Nat} {H : Hp} {s : Shared} (I : Inv Y pins σ0 H s) (st : tn 0 s.heap) (hf : ∀ b ∈ fp, FpOk Y pins H b) (w : W 0 m H) : codeAny (model Y.prog Y.w) Y.A (.compLoop e k (.ref it) (.ref D) Y.env) R s := by
  subst he
  have ok : ∀ {H' : Hp}, (∀ b ∈ fp, H' b = none) → ∀ b ∈ fp, FpOk Y pins H' b := fun n b hb => ⟨n b hb, (hf b hb).2⟩
  refine codeAny_loop hq (fun n s' => ∃ i H', Inv Y pins σ0 H' s' ∧ tn i s'.heap ∧ (∀ b ∈ fp, H' b = none) ∧ W i n H') ?_ m ⟨0, H, I, st, fun b hb => (hf b hb).1, w⟩
  rintro n s5 ⟨i, H5, I5, st5, n5, w5⟩
  show wpAny _ Y.A ((compTurn (.SetComp elt gens scope pos) k (.ref it) (.ref D) Y.env).onRaise (fun x => do noteFrame x Y.env; theTreesLotGoes x)) _ _ s5
  refine wpAny_noted ?_
  rw [eq]
  unfold turnOf
  refine wpAny_bind (wpAny_standAt (wpAny_bind ?_))
  rcases rd i n H5 w5 with ⟨stop, q⟩ | ⟨go, Nx, on, step⟩
  · refine thnF (T.done Y rfl rfl rfl hc i pins s5 σ0 H5 (fun _ _ => False) I5 (ok n5) st5 stop) fun r s6 ⟨hr, I6⟩ => ?_
    subst hr
    exact wpAny_pure (hR s6 H5 I6 q)
  · refine thnF (T.item Y rfl rfl rfl hc i pins s5 σ0 H5 (fun _ _ => False) I5 (ok n5) st5 go) fun r s6 ⟨u, hr, h6⟩ => ?_
    subst hr
    refine wpAny_bind (thnF h6 fun _ s7 ⟨x, H7, I7, r7, y7, st7, n7⟩ => ?_)
    have I7' := I7.pinned (ok n7) (T.obj _ _ st7)
    have run := pg.run _ s7 σ0 H7 x u _ I7' r7 (step x H7 y7)
    rw [hx] at run
    refine wpAny_bind (thnF run fun _ s8 ⟨σ8, H8, I8, q8⟩ => ?_)
    refine wpAny_bind (thnF (body _ s8 σ8 H8 Nx I8 q8) fun _ s9 ⟨σ9, H9, I9, kn, nx⟩ => ?_)
    obtain ⟨m', hm, w'⟩ := on H9 nx
    have there : ∀ b ∈ fp, ∀ o, s7.heap.get? b = some o → s9.heap.get? b = some o ∧ H9 b = none := fun b hb o e =>
      let z := I9.pin (b, o) (List.mem_append_right _ (List.mem_append_right _ (mem_pinsAt hb e)))
      ⟨z.1, z.2.1⟩
    refine wpAny_pure ⟨rfl, m', hm, i + 1, H9, Inv.known I9.unpinned kn, T.keep _ _ _ st7 fun b hb o e => (there b hb o e).1, fun b hb => ?_, w'⟩
    obtain ⟨o, e, _⟩ := T.obj _ _ st7 b hb
    exact (there b hb o e).2
/-- set.add of a text -/
theorem add_text {A : Around} {E : Value → Shared → Prop} {pins : List (Addr × Obj)} {σ : Sl} {H : Hp} {s : Shared} {D : Addr} {l : List Str} {x : Str} {u : Tok} {Q : Value → Shared → Prop} (I : Inv Y pins σ H s) (hD : H D = some (SetS Y.prog Y.w D l)) (room : l.length + 1 < scanBound)
    (h : ∀ s', Inv Y pins σ (upd H D (SetS Y.prog Y.w D (once l [x]))) s' → Q .none s') : wpAny (model Y.prog Y.w) A (call (.builtin "set.add") [.ref D, .str x u]) Q E s := by
  obtain ⟨P, g, F⟩ := setS_get I hD
  have hT : s.TypeIs (.ref D) "set" := ⟨_, g, rfl⟩
  have same : once l [x] = if x ∈ l then l else x :: l := rfl
  rw [same] at h
  refine wpAny_call_entry PySem.F.slot_set_add hT PySem.F.entry_set_add ?_ (PySem.F.args_set_add_2 _ _)
  unfold Builtin.«set.add» Builtin.Frozenset.oneOther
  simp only [List.isEmpty_nil, bind_assoc]
  unfold Builtin.Frozenset.addrOf setAdd
  refine wpAny_bind (wpAny_pure ?_)
  try dsimp only
  refine wpAny_bind (wpAny_pure ?_)
  try dsimp only
  refine wpAny_bind (wpAny_holding (wpAny_bind ((strKind Y.prog Y.w).pyHash (k := x) (is_str _ _) ?_)))
  by_cases m : x ∈ l
  · rw [if_pos m] at h
    refine add_there (s := { s with toks := s.toks + 1 }) g F.tx m (by omega) ?_
    show wpAny _ _ (ret Value.none) _ _ _
    refine wpAny_pure ⟨_, rfl, h _ ?_⟩
    have e : upd H D (SetS Y.prog Y.w D l) = H := by
      funext b
      unfold upd
      split
      · rename_i z; rw [z]; exact hD.symm
      · rfl
    rw [e]
    exact I.tok _
  · rw [if_neg m] at h
    refine add_x (l := l) (D := P) (s := { s with toks := s.toks + 1 }) g F.tx m room ?_
    show wpAny _ _ (ret Value.none) _ _ _
    refine wpAny_pure ⟨_, rfl, h _ (I.write (e := D) (t' := s.toks + 1) (by rw [hD]; trivial) (.inl rfl) (fun b o n e => PySem.Heap.get?_update_of_ne _ (Ne.symm n) e) ⟨_, get_upd _ g rfl⟩ (setS_new (get_upd _ g rfl) (F.add u m)))⟩
end
section
variable {prog : Program} {w : World} {A : Around} {R : Result → Shared → Prop} {s : Shared} {elt t0 i0 t1 i1 : Expr} {scope : Scope} {pos : Pos} {it acc : Value} {env : Env}
theorem start_1 (h0 : codeAny (model prog w) A (.compLoop (.SetComp elt [⟨t0, i0, [], 0⟩, ⟨t1, i1, [], 0⟩] scope pos) 1 it acc env) R s)
    (h : wpAny (model prog w) A (pyIter it) (fun it' s' => codeAny (model prog w) A (.compLoop (.SetComp elt [⟨t0, i0, [], 0⟩, ⟨t1, i1, [], 0⟩] scope pos) 1 it' acc env) R s') (notedBy (model prog w) A env fun x s' => R (.error x) s') s) :
    codeAny (model prog w) A (.compStart (.SetComp elt [⟨t0, i0, [], 0⟩, ⟨t1, i1, [], 0⟩] scope pos) 1 it acc env) R s := by
  refine codeAny_of_tree ?_
  show wpAny _ _ ((compStart (.SetComp elt [⟨t0, i0, [], 0⟩, ⟨t1, i1, [], 0⟩] scope pos) 1 it acc env).onRaise (fun x => do noteFrame x env; standAt theWindowsPlace)) _ _ s
  refine wpAny_notedAt ?_
  unfold compStart
  show wpAny _ _ (ask >>= _) _ _ s
  refine wpAny_bind (wpAny_askSetting (wpAny_ite ?_))
  split
  · first | exact wpAny_bind (wpAny_pure (wpAny_pure ⟨rfl, h0⟩)) | exact wpAny_pure ⟨rfl, h0⟩
  · refine wpAny_bind (wpAny_rule ?_)
    show wpAny _ _ (standAt i1.pos >>= _) _ _ s
    exact wpAny_bind (wpAny_standAt (wpAny_bind (wpAny_mono h (fun it' s' h' => wpAny_pure ⟨rfl, h'⟩) fun _ _ x => x)))
end
section
variable {X : Cx}
/-- {elt for t0 in i0 for t1 in i1}; vs: the block's names, vs1: those of t1 -/
def tSc2 (P : Program) (w : World) (wi : TI) (g : TG) (wi1 : TI) (g1 : TG) (te : TE) (vs vs1 : List Nat) : TE := fun σ H Q => wi σ H fun J H1 => ∀ D, H1 D = none → ∃ W : Nat → Nat → Hp → Prop, (∃ m, W 0 m (upd H1 D (SetS P w D []))) ∧
  Round J g (wipe σ vs) (fun σ2 H2 Nx => wipe σ2 vs = wipe σ vs ∧ wi1 σ2 H2 fun J1 H3 => ∃ W1 : Nat → Nat → Hp → Prop, (∃ m, W1 0 m H3) ∧
    Round J1 g1 (wipe σ2 vs1) (fun σ3 H5 Nx1 => wipe σ3 vs1 = wipe σ2 vs1 ∧ te σ3 H5 fun y H6 => ∃ x l, y = .str x ∧ H6 D = some (SetS P w D l) ∧ l.length + 1 < scanBound ∧ Nx1 (upd H6 D (SetS P w D (once l [x])))) Nx W1) (Q (.ref D)) W
theorem pe_sc2 {elt t0 i0 t1 i1 : Expr} {scope : Scope} {own : List (Str × Nat)} {vs1 : List Nat} {pos : Pos} {wi wi1 : TI} {g g1 : TG} {te : TE} (hc : X.calm = true) (hN : X.N.Nodup) (hi : PI X t0 i0 wi) (ok : BlkOk X.N X.env.scope scope own) (hv : ∀ i ∈ vs1, i ∈ own.map (·.2))
    (hg : ∀ (s : Shared) (H : Hp) (C : Addr) (cl : List (Str × Addr)) (fp : List Addr), PG (X.blk s H scope (compEnvC scope cl C X.env) fp) t0 g)
    (hi1 : ∀ (s : Shared) (H : Hp) (C : Addr) (cl : List (Str × Addr)) (fp : List Addr), PI (X.blk s H scope (compEnvC scope cl C X.env) fp) t1 i1 wi1)
    (hg1 : ∀ (s : Shared) (H : Hp) (C : Addr) (cl : List (Str × Addr)) (fp : List Addr), PG (X.blk s H scope (compEnvC scope cl C X.env) fp) t1 g1)
    (he : ∀ (s : Shared) (H : Hp) (C : Addr) (cl : List (Str × Addr)) (fp : List Addr), PE (X.blk s H scope (compEnvC scope cl C X.env) fp) elt te)
    (hs : ∀ x, foldedSetIterable i0 X.env x = pure x := by intro _; rfl) (hs1 : ∀ env x, foldedSetIterable i1 env x = pure x := by intro _ _; rfl) :
    PE X (.SetComp elt [⟨t0, i0, [], 0⟩, ⟨t1, i1, [], 0⟩] scope pos) (tSc2 X.prog X.w wi g wi1 g1 te (own.map (·.2)) vs1) := by
  refine ⟨fun pins s σ H Q I h => ?_⟩
  have hfree : ∀ y ∈ scope.names, y.2 = .free → ∃ c, X.env.cells.lookup y.1 = some c := fun y hy e => I.ok.has _ (ok.free y hy e)
  show wpAny _ _ (comprehension _ _ _ _ _ _ _) _ _ _
  refine wpAny_comprehension_free (use := none) rfl hs (closure_ok hfree) ok.kind (fun y hy e => by rw [ok.uniq y hy, e]) (thn (hi.run pins s σ H _ I h) fun xv s1 hx => thn hx fun itv s2 h2 => ?_)
  obtain ⟨it, fp, tn, J, H2, rfl, I2, T, st2, f2, q⟩ := h2
  refine PpSet.newSet_ok (newEnv_comp ?_)
  generalize hD : s2.heap.objs.size = D
  have hDn : H2 D = none := I2.hok.fresh (Nat.le_of_eq hD)
  obtain ⟨W, ⟨m0, w0⟩, rd⟩ := q D hDn
  let S0 : Obj := { cls := .type "set", dict := none, data := .set #[] 0 (.fresh 0 0 (!X.w.params.followText "set-order")) }
  generalize hs3 : ({ s2 with heap := s2.heap.push S0 } : Shared) = s3
  generalize hH3 : upd H2 D (SetS X.prog X.w D []) = H3 at w0
  have h3 : s3.heap = s2.heap.push S0 := by rw [← hs3]
  have I3 : Inv X pins σ H3 s3 := by
    rw [← hs3, ← hH3]
    refine I2.laid (t' := s2.toks) (fun b o e => Heap.get?_push_of_some _ e) (Nat.le_of_eq hD) ?_
    rw [← hD]
    exact setS_new (D := (#[], 0, .fresh 0 0 (!X.w.params.followText "set-order"))) (Heap.get?_push_size _ rfl) (Sx.fresh X.w)
  have f3 : ∀ b ∈ fp, FpOk X pins H3 b ∧ b < s3.heap.objs.size := fun b hb => by
    obtain ⟨o, e, _⟩ := T.obj _ _ st2 b hb
    have lt := Heap.lt_size e
    refine ⟨⟨?_, (f2 b hb).2⟩, by rw [h3, Heap.size_push]; exact Nat.lt_succ_of_lt lt⟩
    rw [← hH3, upd_ne (by rw [← hD]; exact Nat.ne_of_lt lt)]
    exact (f2 b hb).1
  have I4 := block_start I3 ok hN f3
  have keep4 : ∀ b o, s2.heap.get? b = some o → (pushCells (s3.heap.push { cls := .type "dict", data := .dict #[] }) scope.names).get? b = some o := fun b o e => pushCells_keeps _ _ _ _ (Heap.get?_push_of_some _ (by rw [h3]; exact Heap.get?_push_of_some _ e))
  show codeAny _ _ (.compStart (.SetComp elt [⟨t0, i0, [], 0⟩, ⟨t1, i1, [], 0⟩] scope pos) 0 (.ref it) (.ref D) (compEnvC scope (cellsFrom (s3.heap.objs.size + 1) scope.names (cloFrom X.env.cells scope.names [])) s3.heap.objs.size X.env)) _ { s3 with heap := pushCells (s3.heap.push { cls := .type "dict", data := .dict #[] }) scope.names }
  have pg := hg s3 H3 s3.heap.objs.size (cellsFrom (s3.heap.objs.size + 1) scope.names (cloFrom X.env.cells scope.names [])) fp
  have pe := he s3 H3 s3.heap.objs.size (cellsFrom (s3.heap.objs.size + 1) scope.names (cloFrom X.env.cells scope.names [])) fp
  have pi1 := hi1 s3 H3 s3.heap.objs.size (cellsFrom (s3.heap.objs.size + 1) scope.names (cloFrom X.env.cells scope.names [])) fp
  have pg1 := hg1 s3 H3 s3.heap.objs.size (cellsFrom (s3.heap.objs.size + 1) scope.names (cloFrom X.env.cells scope.names [])) fp
  generalize hce : compEnvC scope (cellsFrom (s3.heap.objs.size + 1) scope.names (cloFrom X.env.cells scope.names [])) s3.heap.objs.size X.env = ce at I4 pg pe pi1 pg1 ⊢
  have cL : ce.locals = s3.heap.objs.size := by subst hce; rfl
  generalize hs4 : ({ s3 with heap := pushCells (s3.heap.push { cls := .type "dict", data := .dict #[] }) scope.names } : Shared) = s4 at I4 ⊢
  have st4 : tn 0 s4.heap := T.keep _ _ _ st2 fun b _ o e => by rw [← hs4]; exact keep4 b o e
  have nfp : ∀ b ∈ fp, H3 b = none := fun b hb => (f3 b hb).1.1
  have fY : ∀ b ∈ fp, FpOk (X.blk s3 H3 scope ce fp) [] H3 b := fun b hb =>
    ⟨nfp b hb, (I4.ok.exf b hb).1, I4.ok.exfs b hb, .inl hb, fun x c e => (I4.ok.exf b hb).2 x c e, fun p hp => absurd (show p ∈ ([] : List (Addr × Obj)) ++ [] from hp) (by simp)⟩
  have loop : codeAny (model X.prog X.w) X.A (.compLoop (.SetComp elt [⟨t0, i0, [], 0⟩, ⟨t1, i1, [], 0⟩] scope pos) 0 (.ref it) (.ref D) ce) (compPost (model X.prog X.w) X.A X.xe none (fun v s' => ∃ x H', Inv X pins σ H' s' ∧ RelV x v ∧ Q x H') (.ref D) s3.heap.objs.size) s4 := by
    refine clause (Y := X.blk s3 H3 scope ce fp) rfl hc rfl rfl (turn_0 elt t0 i0 t1 i1 scope pos (.ref it) (.ref D) ce) T pg ?_ rd ?_ I4 st4 fY w0
    · intro pins' s5 σ5 H5 Nx I5 q5
      obtain ⟨hw5, q5⟩ := q5
      refine wpAny_bind (thnF (pi1.run _ s5 σ5 H5 _ I5 q5) fun xv s6 hx => ?_)
      refine wpAny_bind (wpAny_standAt (wpAny_bind (wpAny_of_eq (hs1 ce xv) (wpAny_bind (wpAny_holding (thnF hx fun itv s7 h7 => ?_))))))
      obtain ⟨it1, fp1, tn1, J1, H7, rfl, I7, T1, st7, f7, W1, ⟨m1, w1⟩, rd1⟩ := h7
      refine wpAny_bind (wpAny_runOwn ?_)
      rw [Around.mark_none]
      have loop1 : codeAny (model X.prog X.w) X.A (.compLoop (.SetComp elt [⟨t0, i0, [], 0⟩, ⟨t1, i1, [], 0⟩] scope pos) 1 (.ref it1) (.ref D) ce)
          (fun r s' => match r with
            | .ok _ => ∃ σ3 H', Inv (X.blk s3 H3 scope ce fp) pins' σ3 H' s' ∧ Kn (wipe σ (own.map (·.2))) σ3 ∧ Nx H'
            | .error _ => False) s7 := by
        refine clause (Y := X.blk s3 H3 scope ce fp) rfl hc rfl rfl (turn_1 elt t0 i0 t1 i1 scope pos (.ref it1) (.ref D) ce) T1 pg1 (σ0 := wipe σ5 vs1) ?_ rd1 (fun s9 H9 I9 q9 => ⟨_, H9, I9, kn_in hw5 hv, q9⟩) (Inv.known I7 (kn_wipe rfl)) st7 f7 w1
        intro pins8 s8 σ8 H8 Nx1 I8 q8
        obtain ⟨hw8, q8⟩ := q8
        refine wpAny_bind (thnF (pe.run _ s8 σ8 H8 _ I8 q8) fun v s9 ⟨y, H9, I9, r9, x, l, ey, hD9, room, nx⟩ => ?_)
        subst ey
        obtain ⟨u, rfl⟩ := r9
        refine wpAny_bind (wpAny_standAt (wpAny_bind ?_))
        exact add_text (Y := X.blk s3 H3 scope ce fp) I9 hD9 room fun s10 I10 => wpAny_pure ⟨σ8, _, I10, kn_wipe hw8, nx⟩
      refine codeAny_mono (start_1 loop1 (T1.self X.A 0 _ _ _ st7 loop1)) fun r s' hr => ?_
      cases r with
      | ok f => exact wpAny_pure hr
      | error e => exact hr.elim
    · intro s6 H6 I6 q6
      have I7 : Inv X pins σ H6 s6 := I3.call' (ch := fp) I6.os I6.base I6.hok I6.bare fun b hb => ⟨(f3 b hb).1.2.2.2.1, (f3 b hb).1.2.1, (f3 b hb).1.2.2.2.2.1, (f3 b hb).1.2.2.2.2.2⟩
      have nC : H6 s3.heap.objs.size = none := by
        have z : H6 ce.locals = none := I6.free
        rw [cL] at z
        exact z
      obtain ⟨m, hn, _⟩ := I6.loc
      have hn : s6.heap.Ns ce.locals m := hn
      rw [cL] at hn
      obtain ⟨a0, a1, a2, a3, a4, a5⟩ := I3.fpOk (Nat.le_refl _) nC
      exact ⟨m, hn, fun h'' sb => ⟨.ref D, H6, I7.turned (t' := s6.toks) (fun b o hb e => (sb.2 b hb).trans e) a0 a1 a3 a4 a5, rfl, q6⟩⟩
  exact PpSet.codeAny_compStart_set loop (T.self X.A 0 _ _ _ st4 loop)
end
end FR
set_option Elab.async false
set_option linter.all false
set_option maxRecDepth 100000
set_option maxHeartbeats 4000000
/-! not in an own object; a list's slice by a step of one or minus one; sum(lists, start=[]) -/
namespace FR
open PySem PySem.Spec PyProof.Rows
section
open L2
variable {X : Cx} {C g : Addr} {n : Nat} {sp : Sp} {CX : CXT} {E : XK}
def rNotInI (C : Addr) (sp : Sp) (E : XK) : R2 := fun x y H Q => ∃ a dx fs, y = .ref a ∧ H a = some (.ins C dx fs) ∧ sp [y, x] H (fun z H' => ∃ b, z = .bl b ∧ Q (.bl (!b)) H') E
theorem op_notInI (hs : PySem.W.findIn X.K (.ref C) "__contains__" = some (some (.ref g))) (hf : PySem.W.isFn X.K (.ref g) = true) (F : FnR X.prog X.w X.K X.mg X.base CX n g sp)
    (hr : Room n X.A) (hx : Passes CX X E) : OpR X (compareOp .NotIn) (rNotInI C sp E) := by
  intro pins s σ H x y v u Q I rx ry h
  obtain ⟨a, dx, fs, rfl, ha, q⟩ := h
  cases (show u = Value.ref a from ry)
  obtain ⟨od, J⟩ := ins_inst I ha
  obtain ⟨m, hF⟩ := I.fr
  refine PySem.W.notIn_K hF I.ok.mod.kin J hs hf (wpAny_mono (wpAny_call (run_fnR (us := [.ref a, v]) (vs := [.ref a, x]) F hr hx I (.cons rfl (.cons rx .nil)) q)) (fun w s' z => ?_) fun _ _ x => x)
  obtain ⟨z', H', I', rz, b, eb, qz⟩ := z
  subst eb
  cases (show w = Value.bool b from rz)
  exact wpAny_truthy_bool ⟨.bl (!b), H', I', rfl, qz⟩
/-- xs[::k], k one or minus one -/
def tStepL (K : PySem.W.Frag) (te : TE) (tp : L2.St → Hp → (Option Int → Hp → Prop) → Prop) : TE := fun σ H Q => te σ H fun x H1 => ∃ a xs, x = .ref a ∧ SqL K H1 a xs ∧ tp σ H1 fun o H2 => SqL K H2 a xs ∧
  ((o = some 1 ∧ ∀ p, H2 p = none → Q (.ref p) (upd H2 p (.lst xs))) ∨ (o = some (-1) ∧ ∀ p, H2 p = none → Q (.ref p) (upd H2 p (.lst xs.reverse))))
theorem pick_all (items : Array Value) : slicePick items none none (some 1) = items := by
  have e : sliceBounds none none (some 1) items.size = (0, (items.size : Int), 1) := by first | rfl | simp [sliceBounds]
  unfold slicePick
  rw [e]
  have h1 := sliceRange_one 0 items.size
  have h2 := pick_run items 0 items.size
  simp only [Nat.sub_zero] at h1
  show ((sliceRange 0 (items.size : Int) 1).filterMap (items[·]?)).toArray = items
  rw [show sliceRange 0 (items.size : Int) 1 = (List.range items.size).map (0 + ·) from h1, h2, List.drop_zero, List.take_of_length_le (by rw [Array.length_toList]; exact Nat.le_refl _), Array.toArray_toList]
theorem pe_stepL {e se : Expr} {te : TE} {tp : L2.St → Hp → (Option Int → Hp → Prop) → Prop} {p3 pos : Pos} (he : PE X e te) (hp : PO X (some se) tp) (hops : ∀ v w, subscripted (.Slice none none (some se) p3) false v w = operate [v, w] (getItem v w) := by intro _ _; with_unfolding_all rfl) :
    PE X (.Subscript e (.Slice none none (some se) p3) pos) (tStepL X.K te tp) := by
  refine ⟨fun pins s σ H Q I h => ?_⟩
  refine Subscript_ (thn (he.run pins s σ H _ I h) fun v s1 ⟨x, H1, I1, r1, q1⟩ => ?_)
  obtain ⟨a, xs, ex, hx, q⟩ := q1
  subst ex
  cases r1
  refine wpAny_Slice (thn (po_none.run pins s1 σ H1 (fun o H2 => o = none ∧ H2 = H1) I1 ⟨rfl, rfl⟩) fun vl s2 ⟨l, H2, I2, pl, el, e2⟩ => ?_)
  subst el e2
  refine thn (po_none.run pins s2 σ H2 (fun o H3 => o = none ∧ H3 = H2) I2 ⟨rfl, rfl⟩) fun vu s3 ⟨u, H3, I3, pu, eu, e3⟩ => ?_
  subst eu e3
  refine thn (hp.run pins s3 σ H3 _ I3 q) fun vs s4 ⟨o, H4, I4, ps, hx4, q4⟩ => ?_
  have I5 : Inv X pins σ H4 { s4 with heap := s4.heap.push { cls := .type "slice", data := .fields #[vl, vu, vs] } } := I4.kept (t' := s4.toks) fun b ob q => Heap.get?_push_of_some _ q
  obtain ⟨its, r, ht, hz⟩ := I5.list hx4
  have hlen := r.length
  show wpAny (model X.prog X.w) X.A (subscriptTail e (.Slice none none (some se) p3) (.ref a) (.ref s4.heap.objs.size)) (EP X pins σ Q) X.xe { s4 with heap := s4.heap.push { cls := .type "slice", data := .fields #[vl, vu, vs] } }
  refine tail_any (ops := [.ref a, .ref s4.heap.objs.size]) ht.isList.typeIs (PySem.slot_list_getitem.lookup) ?_ (hops _ _)
  rcases q4 with ⟨rfl, q4⟩ | ⟨rfl, q4⟩
  · refine wpAny_getItem_list_slice ht.isList (Heap.IsSliceOf.new _ vl vu vs) pl pu ps (by decide) ?_ (by rw [List.size_toArray]; omega)
    rw [pick_all]
    refine ⟨.ref _, _, I5.laid (t' := s4.toks) (o := .lst xs) (fun b ob q => Heap.get?_push_of_some _ q) (Nat.le_refl _) ?_, rfl, q4 _ (I5.hok.fresh (Nat.le_refl _))⟩
    exact ⟨hz, _, 0, r, Heap.get?_push_size _ rfl⟩
  · refine wpAny_getItem_list_slice ht.isList (Heap.IsSliceOf.new _ vl vu vs) pl pu ps (by decide) ?_ (by rw [List.size_toArray]; omega)
    rw [PySem.W.krv_pick]
    refine ⟨.ref _, _, I5.laid (t' := s4.toks) (o := .lst xs.reverse) (fun b ob q => Heap.get?_push_of_some _ q) (Nat.le_refl _) ?_, rfl, q4 _ (I5.hok.fresh (Nat.le_refl _))⟩
    exact ⟨by rw [List.length_reverse]; exact hz, _, 0, r.reverse, Heap.get?_push_size _ rfl⟩
end
section
variable {prog : Program} {w : World} {A : Around}
/-- the lists of a list, one behind the other -/
theorem sum_go {R : Result → Shared → Prop} {I S l : Addr} {items : Array Value} (hh : A.handled = none) (nSI : S ≠ I) (nSl : S ≠ l) (nlI : l ≠ I) :
    ∀ (rest : List (Addr × List Value)) (i : Nat) (s : Shared) (t : Addr) (tot : List Value) (n c : Nat), items.toList.drop i = rest.map (fun q => Value.ref q.1) → i ≤ items.size → s.heap.IsListIter I l i → s.heap.IsList l items →
      IsL s.heap S #[.ref t] c → IsL s.heap t tot.toArray n → (∀ q ∈ rest, ∃ k, IsL s.heap q.1 q.2.toArray k) → t ≠ S → t ≠ I → (∀ q ∈ rest, q.1 ≠ S ∧ q.1 ≠ I) → tot.length + (rest.map (·.2.length)).sum ≤ sizeLine →
      (∀ (h' : Heap) (tk : Nat) (t' : Addr) (k : Nat), IsL h' t' (tot ++ (rest.map (·.2)).flatten).toArray k → (∀ b o, b ≠ S → b ≠ I → s.heap.get? b = some o → h'.get? b = some o) → (rest = [] → t' = t) → (rest ≠ [] → s.heap.objs.size ≤ t') → R (.ok (.ret (.ref t'))) { s with heap := h', toks := tk }) →
      codeAny (model prog w) A (.builtin "sum.loop" ⟨[.ref I, .ref S, rawInt 2, rawInt 0], []⟩) R s
  | [], i, s, t, tot, n, c, dr, hi, it, hl, hS, ht, _, _, _, _, _, q => by
    have e : items.toList[i]? = none := by
      rw [← List.head?_drop, dr]; rfl
    refine codeAny_builtin F.entry_sum_loop ?_
    rw [Around.under_plainId F.plain_sum_loop _]
    show wpAny _ A.in1 (seqItems? (.ref S) >>= _) _ _ s
    refine wpAny_bind (wpAny_seqItems hS rfl ?_)
    show wpAny _ A.in1 (tryCatch (pyNext (.ref I)) _ >>= _) _ _ s
    refine wpAny_bind (wpAny_tryCatch (wpAny_pyNext_list_end (by simp [hh]) it hl (by rw [← Array.getElem?_toList]; exact e) fun h' he => ?_))
    refine wpAny_pure (q h' s.toks t n (by simpa using he t _ (by assumption) ht) (fun b o n1 n2 e => he b o n2 e) (fun _ => rfl) (fun h => absurd rfl h))
  | (b, ys) :: rest, i, s, t, tot, n, c, dr, hi, it, hl, hS, ht, hr, ntS, ntI, nr, bound, q => by
    have hx : items[i]? = some (.ref b) := by
      rw [← Array.getElem?_toList, ← List.head?_drop, dr]; rfl
    have dr2 : items.toList.drop (i + 1) = rest.map (fun q => Value.ref q.1) := by
      rw [← List.tail_drop, dr]; rfl
    have lt : i < items.size := (Array.getElem?_eq_some_iff.mp hx).1
    obtain ⟨kb, hb⟩ := hr (b, ys) (List.mem_cons_self ..)
    obtain ⟨nbS, nbI⟩ := nr (b, ys) (List.mem_cons_self ..)
    simp only [List.map_cons, List.sum_cons] at bound
    refine codeAny_builtin F.entry_sum_loop ?_
    rw [Around.under_plainId F.plain_sum_loop _]
    show wpAny _ A.in1 (seqItems? (.ref S) >>= _) _ _ s
    refine wpAny_bind (wpAny_seqItems hS rfl ?_)
    show wpAny _ A.in1 (tryCatch (pyNext (.ref I)) _ >>= _) _ _ s
    refine wpAny_bind (wpAny_tryCatch (wpAny_pyNext_list_item it hl hx fun h1 it1 sb => ?_))
    have k1 : ∀ a o, a ≠ I → s.heap.get? a = some o → h1.get? a = some o := fun a o ne e => (sb.2 a ne).trans e
    show wpAny _ A.in1 ((holding [Value.ref b] (binaryOp .Add (.ref t) (.ref b))).attempt >>= _) _ _ _
    refine wpAny_bind (wpAny_attempt (wpAny_holding (P.add_list (s := { s with heap := h1 }) (k1 t _ ntI ht) (k1 b _ nbI hb) ?_ (by simp only [List.size_toArray]; omega))))
    have eq : tot.toArray ++ ys.toArray = (tot ++ ys).toArray := by simp
    rw [eq]
    show wpAny _ A.in1 (updateSeq S (fun _ => #[.ref h1.objs.size]) >>= _) _ _ _
    have hS1 : IsL (h1.push { cls := .type "list", data := .seq (tot ++ ys).toArray }) S #[.ref t] c := Heap.get?_push_of_some _ (k1 S _ nSI hS)
    have lS1 := Heap.lt_size (k1 S _ nSI hS)
    refine wpAny_bind (wpAny_updateSeq hS1 rfl ?_)
    have hS2 := Heap.get?_update_self (Obj.mapSeq fun _ => #[Value.ref h1.objs.size]) hS1 rfl
    refine wpAny_bind (wpAny_letGo ?_)
    show wpAny _ A.in1 (updateSeq S (fun _ => #[.ref h1.objs.size]) >>= _) _ _ _
    refine wpAny_bind (wpAny_updateSeq hS2 rfl ?_)
    have hS3 := Heap.get?_update_self (Obj.mapSeq fun _ => #[Value.ref h1.objs.size]) hS2 rfl
    have sz : s.heap.objs.size ≤ h1.objs.size := Nat.le_of_eq sb.1.symm
    have keep : ∀ a o, a ≠ S → a ≠ I → s.heap.get? a = some o → ((((h1.push { cls := .type "list", data := .seq (tot ++ ys).toArray }).update S (Obj.mapSeq fun _ => #[Value.ref h1.objs.size])).update S (Obj.mapSeq fun _ => #[Value.ref h1.objs.size]))).get? a = some o := fun a o n1 n2 e =>
      (Heap.get?_update_other _ _ (Ne.symm n1)).trans ((Heap.get?_update_other _ _ (Ne.symm n1)).trans (Heap.get?_push_of_some _ (k1 a o n2 e)))
    have nt : h1.objs.size ≠ S := Nat.ne_of_gt lS1
    have nI : h1.objs.size ≠ I := by
      obtain ⟨oI, hI, _⟩ := it1
      exact Nat.ne_of_gt (Heap.lt_size hI)
    refine wpAny_pure ⟨plainId_quiet F.plain_sum_loop _, sum_go hh nSI nSl nlI rest (i + 1) _ h1.objs.size (tot ++ ys) 0 _ dr2 lt ?_ ?_ hS3 ?_ (fun z hz => ?_) nt nI (fun z hz => nr z (List.mem_cons_of_mem _ hz)) (by rw [List.length_append]; omega) fun h' tk t' k hL kk e1 e2 => ?_⟩
    · exact it1.at fun o e => (Heap.get?_update_other _ _ nSI).trans ((Heap.get?_update_other _ _ nSI).trans (Heap.get?_push_of_some _ e))
    · exact hl.at fun o e => keep l o (Ne.symm nSl) nlI e
    · exact (Heap.get?_update_other _ _ (Ne.symm nt)).trans ((Heap.get?_update_other _ _ (Ne.symm nt)).trans (Heap.get?_push_size _ rfl))
    · obtain ⟨kz, hz2⟩ := hr z (List.mem_cons_of_mem _ hz)
      obtain ⟨n1, n2⟩ := nr z (List.mem_cons_of_mem _ hz)
      exact ⟨kz, keep _ _ n1 n2 hz2⟩
    · refine q h' tk t' k ?_ (fun a o n1 n2 e => kk a o n1 n2 (keep a o n1 n2 e)) (fun h => nomatch h) fun _ => ?_
      · rw [List.map_cons, List.flatten_cons, ← List.append_assoc]; exact hL
      · by_cases hrest : rest = []
        · rw [e1 hrest]; exact sz
        · refine Nat.le_trans sz (Nat.le_trans ?_ (e2 hrest))
          rw [Heap.size_update, Heap.size_update, Heap.size_push]
          exact Nat.le_succ _
end
end FR
set_option Elab.async false
set_option linter.all false
set_option maxRecDepth 100000
set_option maxHeartbeats 4000000
/-! sum(lists, start=[]) -/
namespace FR
open PySem PySem.Spec PyProof.Rows
section
variable {prog : Program} {w : World} {A : Around} {E : Value → Shared → Prop} {s : Shared}
theorem sum_args (a b : Value) : argsOk "sum" ⟨[a], [(Str.ofString "start", b)]⟩ := by unfold argsOk; kernel_rfl
theorem sum_check (a b : Value) : checkBuiltinCall "sum" ⟨[a], [(Str.ofString "start", b)]⟩ = pure () := by
  have ha := sum_args a b
  simp only [checkBuiltinCall, F.kind_sum]
  cases hsig : Manifest.signature? "sum" with
  | none => rfl
  | some sig =>
    simp only [argsOk, hsig] at ha
    exact ha
theorem call_sum_lists {l z : Addr} {items : Array Value} {nz : Nat} {rest : List (Addr × List Value)} {Q : Value → Shared → Prop} (hh : A.handled = none) (hl : s.heap.IsList l items) (hi : items.toList = rest.map fun q => Value.ref q.1) (hz : IsL s.heap z #[] nz)
    (hr : ∀ q ∈ rest, ∃ k, IsL s.heap q.1 q.2.toArray k) (ne : rest ≠ []) (bound : (rest.map (·.2.length)).sum ≤ sizeLine)
    (h : ∀ (h' : Heap) (tk : Nat) (t : Addr) (k : Nat), IsL h' t ((rest.map (·.2)).flatten).toArray k → (∀ b o, s.heap.get? b = some o → h'.get? b = some o) → s.heap.objs.size ≤ t → Q (.ref t) { s with heap := h', toks := tk }) :
    wpAny (model prog w) A (call (.builtin "sum") [.ref l] [(Str.ofString "start", .ref z)]) Q E s := by
  refine wpAny_call (codeAny_call_builtin F.plain_sum F.entry_sum ?_)
  show wpAny _ _ (checkBuiltinCall "sum" ⟨[.ref l], [(Str.ofString "start", .ref z)]⟩) _ _ s
  rw [sum_check]
  refine wpAny_pure ?_
  unfold Builtin.«sum»
  simp only [List.length_cons, List.length_nil]
  rw [if_neg (by decide)]
  refine wpAny_bind (wpAny_of_eq (show Builtin.Builtins.bindParams "sum" ["start"] 0 ⟨[], [(Str.ofString "start", Value.ref z)]⟩ = pure [some (.ref z)] from rfl) ?_)
  refine wpAny_bind (wpAny_pyIter_list hl ?_)
  refine wpAny_bind (wpAny_pure ?_)
  have hz1 : IsL (s.heap.push { cls := .type "list_iterator", data := .fields #[.ref l, .int 0 0] }) z #[] nz := hz.push _
  have tz : Shared.TypeIs { s with heap := s.heap.push { cls := .type "list_iterator", data := .fields #[.ref l, .int 0 0] } } (.ref z) "list" := ⟨_, hz1, rfl⟩
  simp only [List.forIn_cons, List.forIn_nil]
  refine wpAny_bind (wpAny_bind (wpAny_bind (wpAny_isInstance (T := "list") (b := false) tz F.sub_list_str ?_)))
  simp only [Bool.false_eq_true, if_false]
  refine wpAny_pure (wpAny_bind (wpAny_bind (wpAny_isInstance (T := "list") (b := false) tz F.sub_list_bytes ?_)))
  simp only [Bool.false_eq_true, if_false]
  refine wpAny_pure (wpAny_bind (wpAny_bind (wpAny_isInstance (T := "list") (b := false) tz F.sub_list_bytearray ?_)))
  simp only [Bool.false_eq_true, if_false]
  refine wpAny_pure (wpAny_pure ?_)
  refine wpAny_bind (wpAny_newObj_type ?_)
  have hl1 := hl.push { cls := .type "list_iterator", data := .fields #[.ref l, .int 0 0] }
  have sz1 : (s.heap.push { cls := .type "list_iterator", data := .fields #[.ref l, .int 0 0] }).objs.size = s.heap.objs.size + 1 := Heap.size_push ..
  have ll : l < s.heap.objs.size := by obtain ⟨o, ho, _⟩ := hl; exact Heap.lt_size ho
  have lz : z < s.heap.objs.size := Heap.lt_size hz
  refine wpAny_pure ⟨plainId_quiet F.plain_sum_loop _, sum_go (I := s.heap.objs.size) (S := (s.heap.push { cls := .type "list_iterator", data := .fields #[.ref l, .int 0 0] }).objs.size) (l := l) (items := items) hh
    (by rw [sz1]; exact Nat.succ_ne_self _) (by rw [sz1]; exact Nat.ne_of_gt (Nat.lt_succ_of_lt ll)) (Nat.ne_of_lt ll) rest 0 _ z [] nz 0 (by rw [List.drop_zero]; exact hi) (Nat.zero_le _)
    ⟨_, Heap.get?_push_of_some _ (Heap.get?_push_size _ rfl), rfl, rfl⟩ (hl1.push _) (Heap.get?_push_size _ rfl) (by simpa using hz1.push _) (fun q hq => ?_) (by rw [sz1]; exact Nat.ne_of_lt (Nat.lt_succ_of_lt lz)) (Nat.ne_of_lt lz) (fun q hq => ?_) (by simpa using bound) fun h' tk t k hL kk e1 e2 => ?_⟩
  · obtain ⟨k, hk⟩ := hr q hq
    exact ⟨k, (hk.push _).push _⟩
  · obtain ⟨k, hk⟩ := hr q hq
    have lq := Heap.lt_size hk
    exact ⟨by rw [sz1]; exact Nat.ne_of_lt (Nat.lt_succ_of_lt lq), Nat.ne_of_lt lq⟩
  · refine h h' tk t k (by simpa using hL) (fun b o e => ?_) ?_
    · have lb := Heap.lt_size e
      exact kk b o (by rw [sz1]; exact Nat.ne_of_lt (Nat.lt_succ_of_lt lb)) (Nat.ne_of_lt lb) (Heap.get?_push_of_some _ (Heap.get?_push_of_some _ e))
    · have := e2 ne
      refine Nat.le_trans ?_ this
      show s.heap.objs.size ≤ Array.size _
      rw [Heap.size_push, sz1]
      omega
end
section
open L2
variable {X : Cx}
theorem lists_of {pins : List (Addr × Obj)} {σ : L2.St} {H : Hp} {s : Shared} (I : Inv X pins σ H s) : ∀ ps : List (Addr × List V), (∀ p ∈ ps, H p.1 = some (.lst p.2)) →
    ∃ rest : List (Addr × List Value), rest.map (fun q => Value.ref q.1) = ps.map (fun q => Value.ref q.1) ∧ Vals (ps.map (·.2)).flatten (rest.map (·.2)).flatten ∧ (∀ q ∈ rest, ∃ k, IsL s.heap q.1 q.2.toArray k) ∧ rest.map (·.2.length) = ps.map (·.2.length)
  | [], _ => ⟨[], rfl, .nil, (fun q h => absurd h List.not_mem_nil), rfl⟩
  | (a, xs) :: ps, h => by
    obtain ⟨rest, e1, e2, e3, e4⟩ := lists_of I ps fun p hp => h p (List.mem_cons_of_mem _ hp)
    obtain ⟨_, its, n, r, hl, e⟩ := I.lstM (h (a, xs) (List.mem_cons_self ..))
    refine ⟨(a, its) :: rest, by rw [List.map_cons, List.map_cons, e1], by rw [List.map_cons, List.map_cons, List.flatten_cons, List.flatten_cons]; exact r.append e2, fun q hq => ?_, by rw [List.map_cons, List.map_cons, e4]; show its.length :: _ = xs.length :: _; rw [hl]⟩
    rcases List.mem_cons.mp hq with rfl | m
    · exact ⟨n, e⟩
    · exact e3 q m
def rSumL (K : PySem.W.Frag) : List V → List V → Hp → VK → Prop := fun vs zs H Q => ∃ (a z : Addr) (ps : List (Addr × List V)), vs = [.ref a] ∧ zs = [.ref z] ∧ SqL K H a (ps.map fun p => V.ref p.1) ∧ H z = some (.lst []) ∧ (∀ p ∈ ps, H p.1 = some (.lst p.2)) ∧ ps ≠ [] ∧ (ps.map (·.2.length)).sum ≤ 4000 ∧
  ∀ t, H t = none → Q (.ref t) (upd H t (.lst (ps.map (·.2)).flatten))
theorem cr_sumL (hc : X.calm = true) : CallRK X (.builtin "sum") [Str.ofString "start"] (rSumL X.K) := by
  intro pins s σ H vs zs us ws Q I r rz h
  obtain ⟨a, z, ps, rfl, rfl, hs, hz, hp, ne, b, q⟩ := h
  obtain rfl := Vals.ref1 r
  obtain rfl := Vals.ref1 rz
  obtain ⟨its, rv, hl, _⟩ := I.list hs
  obtain ⟨rest, e1, e2, e3, e4⟩ := lists_of I ps hp
  obtain ⟨_, iz, nz, rz0, lz, ez⟩ := I.lstM hz
  have iz0 : iz = [] := List.length_eq_zero_iff.mp lz.symm
  subst iz0
  have ie : its = rest.map fun q => Value.ref q.1 := by
    rw [e1]
    have : ∀ (qs : List (Addr × List V)) (us : List Value), Vals (qs.map fun p => V.ref p.1) us → us = qs.map fun q => Value.ref q.1 := fun qs => by
      induction qs with
      | nil => intro us h; cases h; rfl
      | cons p t ih =>
        intro us h
        rw [List.map_cons] at h
        cases h with
        | cons r1 rr => rw [List.map_cons, ih _ rr]; cases r1; rfl
    exact this ps its rv
  have len : ((ps.map (·.2)).flatten).length ≤ sizeLine := by
    rw [List.length_flatten, List.map_map]
    exact Nat.le_trans b (by decide)
  show wpAny _ _ (call (.builtin "sum") [.ref a] [(Str.ofString "start", .ref z)]) _ _ _
  refine call_sum_lists (rest := rest) (I.ok.hd hc) hl.isList (by simpa using ie) ez e3 (fun e => ne ?_) (by rw [e4]; exact Nat.le_trans b (by decide)) fun h' tk t k hL kk hge => ?_
  · rw [e] at e1
    exact List.map_eq_nil_iff.mp e1.symm
  · have hn : H t = none := I.hok.fresh hge
    have J : Inv X pins σ (upd H t (.lst (ps.map (·.2)).flatten)) { s with heap := h', toks := tk } := I.laid (t' := tk) kk hge ⟨len, _, k, e2, hL⟩
    exact ⟨.ref t, _, J, rfl, q t hn⟩
end
end FR
set_option Elab.async false
set_option linter.all false
set_option maxRecDepth 100000
set_option maxHeartbeats 4000000
/-! == of dicts whose values are data; a method called by keywords; `in` within a block -/
namespace FR
open PySem PySem.Spec PyProof.Rows L2
def valD (ns : List (Key × PyData)) (k : Key) : Option PyData := (ns.find? fun q => decide (q.1 = k)).map (·.2)
def hitsD (ns : List (Key × PyData)) : List (Key × PyData) → Bool
  | [] => true
  | (k, d) :: r => match valD ns k with
    | none => false
    | some e => PyData.eqv d e && hitsD ns r
def eqDD (ms ns : List (Key × PyData)) : Bool := ms.length == ns.length && hitsD ns ms
/-- a dict's entries, their values data -/
def DpK (K : PySem.W.Frag) (H : Hp) : List (Key × V) → List (Key × PyData) → Prop := Paired fun kv m => kv.1 = m.1 ∧ Dp K H kv.2 m.2 ∧ SeqAt.shaped m.2 = true
theorem dpK_val {K : PySem.W.Frag} {H : Hp} {ks : List (Key × V)} {ms : List (Key × PyData)} (h : DpK K H ks ms) (k : Key) : (valV ks k = none ∧ valD ms k = none) ∨ ∃ v d, valV ks k = some v ∧ valD ms k = some d ∧ Dp K H v d ∧ SeqAt.shaped d = true := by
  induction h with
  | nil => exact .inl ⟨rfl, rfl⟩
  | @cons p m r t h hr ih =>
    obtain ⟨e, hd, hs⟩ := h
    by_cases c : p.1 = k
    · refine .inr ⟨p.2, m.2, valV_pos c, ?_, hd, hs⟩
      unfold valD
      rw [List.find?_cons_of_pos (by rw [← e]; exact decide_eq_true c)]; rfl
    · rw [valV_neg c]
      have : valD (m :: t) k = valD t k := by
        unfold valD
        rw [List.find?_cons_of_neg (by rw [← e]; simpa using c)]
      rw [this]
      exact ih
section
variable {X : Cx}
theorem hits_dd {A : Around} {pins : List (Addr × Obj)} {σ : L2.St} {H : Hp} {s : Shared} (I : Inv X pins σ H s) (hu : A.units + 64 < cLine) {ls : List (Key × V)} {ns : List (Key × PyData)} {vb : List (Key × Value)} (hb : DpK X.K H ls ns) (rb : KV ls vb) :
    ∀ {ks : List (Key × V)} {ms : List (Key × PyData)} {va : List (Key × Value)}, DpK X.K H ks ms → KV ks va → PySem.W.KeqHits A s vb va (hitsD ns ms)
  | _, _, _, .nil, .nil => .nil
  | (k, v) :: _, (k', d) :: ms, (k2, u) :: va, .cons h hr, .cons r rr => by
    obtain ⟨e, hd, hs⟩ := h
    obtain ⟨e2, rv⟩ := r
    obtain rfl : k = k' := e
    obtain rfl : k = k2 := e2
    have q := rb.val k
    rcases dpK_val hb k with ⟨h1, h2⟩ | ⟨v', d', h1, h2, hd', hs'⟩
    · rw [h1] at q
      have none2 : valueAt vb k = none := by
        cases z : valueAt vb k with
        | none => rfl
        | some y => rw [z] at q; exact q.elim
      show PySem.W.KeqHits A s vb ((k, u) :: va) (match valD ns k with | none => false | some e => PyData.eqv d e && hitsD ns ms)
      rw [h2]
      exact .miss none2
    · rw [h1] at q
      cases z : valueAt vb k with
      | none => rw [z] at q; exact q.elim
      | some y =>
        rw [z] at q
        show PySem.W.KeqHits A s vb ((k, u) :: va) (match valD ns k with | none => false | some e => PyData.eqv d e && hitsD ns ms)
        rw [h2]
        obtain ⟨as, r1⟩ := Dp.reads I d v u hd rv
        obtain ⟨bs, r2⟩ := Dp.reads I d' v' y hd' q
        exact .hit z (SeqAt.eqAt_reads d d' A s u y as bs r1 r2 (SeqAt.canLay_of_shaped hs) (SeqAt.canLay_of_shaped hs') (SeqAt.room_of_shaped hs hu)) (hits_dd I hu hb rb hr rr)
def rDD (K : PySem.W.Frag) (neg : Bool) : R2 := fun x y H Q => ∃ a b ks ls ms ns, x = .ref a ∧ y = .ref b ∧ Rd H a (.dK ks) ∧ Rd H b (.dK ls) ∧ DpK K H ks ms ∧ DpK K H ls ns ∧ Q (.bl (neg != eqDD ms ns)) H
theorem op_eqDD (hu : X.A.units + 65 < cLine) : OpR X (compareOp .Eq) (rDD X.K false) := by
  intro pins s σ H x y v u Q I rx ry h
  obtain ⟨a, b, ks, ls, ms, ns, rfl, rfl, ea, eb, hm, hn, q⟩ := h
  obtain rfl : v = Value.ref a := rx
  obtain rfl : u = Value.ref b := ry
  obtain ⟨_, ya, va, ra, da⟩ := dk_rd I.hok ea
  obtain ⟨_, yb, vb, rb, db⟩ := dk_rd I.hok eb
  refine PySem.W.keq_eq (knd := mixKind X.prog X.w) (r := hitsD ns ms) ya yb da db (by omega) (fun _ => hits_dd I (by simp; omega) hn rb hm ra) ⟨.bl _, H, I, rfl, ?_⟩
  have l1 : va.length = ms.length := ra.length.symm.trans (Paired.length hm)
  have l2 : vb.length = ns.length := rb.length.symm.trans (Paired.length hn)
  rw [l1, l2]
  have e : (false != eqDD ms ns) = (ms.length == ns.length && hitsD ns ms) := by
    show (false != eqDD ms ns) = eqDD ms ns
    cases eqDD ms ns <;> rfl
  rw [← e]
  exact q
theorem op_neDD (hu : X.A.units + 65 < cLine) : OpR X (compareOp .NotEq) (rDD X.K true) := by
  intro pins s σ H x y v u Q I rx ry h
  obtain ⟨a, b, ks, ls, ms, ns, rfl, rfl, ea, eb, hm, hn, q⟩ := h
  obtain rfl : v = Value.ref a := rx
  obtain rfl : u = Value.ref b := ry
  obtain ⟨_, ya, va, ra, da⟩ := dk_rd I.hok ea
  obtain ⟨_, yb, vb, rb, db⟩ := dk_rd I.hok eb
  refine PySem.W.keq_ne (knd := mixKind X.prog X.w) (r := hitsD ns ms) ya yb da db (by omega) (fun _ => hits_dd I (by simp; omega) hn rb hm ra) ⟨.bl _, H, I, rfl, ?_⟩
  have l1 : va.length = ms.length := ra.length.symm.trans (Paired.length hm)
  have l2 : vb.length = ns.length := rb.length.symm.trans (Paired.length hn)
  rw [l1, l2]
  have e : (true != eqDD ms ns) = (!(ms.length == ns.length && hitsD ns ms)) := by
    show (true != eqDD ms ns) = !eqDD ms ns
    cases eqDD ms ns <;> rfl
  rw [← e]
  exact q
theorem op_inTK {K : PySem.W.Frag} (hK : X.K = K) (hu : X.A.units + 65 < cLine) : OpR X (compareOp .In) (rInT K) := hK ▸ op_inT hu
end
section
variable {X : Cx} {o : Expr} {kws : List Keyword} {ta : TE} {tk : TA} {C f : Addr} {m : Str} {k : Nat} {fd : FuncData} {ps ks : List Str} {sp : Sp} {CX : CXT} {E : XK} {g : List Value → List Value → List Value} {gV : List V → List V → List V} {apos pos : Pos}
def tMethK (C : Addr) (m : Str) (nk : Nat) (sp : Sp) (gV : List V → List V → List V) (E : XK) (ta : TE) (tk : TA) : TE := fun σ H Q => ta σ H fun x H1 => ∃ a dx fs, x = .ref a ∧ H1 a = some (.ins C dx fs) ∧ fs.lookup m = none ∧ tk σ H1 fun zs H2 => zs.length = nk ∧ sp (gV [x] zs) H2 Q E
/-- o.m(k = v, ..) -/
theorem pe_methK0 {pl : Sem Bool} (he : PE X o ta) (c : Cls X.K C) (hm : Meth X.K C m f) (F : FnOk X.prog X.w X.K X.mg X.base CX k f fd ps sp) (hr : Room k X.A) (hb : KBn X.K fd ps 1 ks g gV) (hx : Passes CX X E) (hkw : PK X kws tk)
    (hall : (backToKw pos (keywordEach kws X.env)).all (·.1.isSome) = true := by rfl) (hks : (backToKw pos (keywordEach kws X.env)).filterMap (·.1) = ks := by rfl)
    (hpl : ((backTo pos (starEach [] X.env)).any (·.1) || (backToKw pos (keywordEach kws X.env)).any (·.1.isNone)) = false := by rfl)
    (ht : eval (.Call (.Attribute o m apos) [] kws pos) X.env = (do
      let ov ← eval o X.env
      standAt apos.atName
      let (f, first) ← holding [ov] (getMethod ov m pl)
      callWith pos f first (backTo pos (starEach [] X.env)) (backToKw pos (keywordEach kws X.env))) := by rfl) :
    PE X (.Call (.Attribute o m apos) [] kws pos) (tMethK C m ks.length sp gV E ta tk) := by
  refine ⟨fun pins s σ H Q I h => ?_⟩
  refine PySem.W.methodCall_KW (pl := pl) (thn (he.run pins s σ H _ I h) fun u s1 ⟨x, H1, I1, rx, a, dx, fs, ex, ea, l, q⟩ => ?_) ht
  subst ex
  obtain rfl : u = Value.ref a := rx
  refine getmeth_ok I1 ea c hm l ?_
  refine PySem.W.callWith_KW0 (h₀ := X.base) (first := [.ref a]) I1.ok.mod.kin hm.kp hall ?_ hpl
  refine thn (hkw.run pos pins s1 σ H1 _ I1 q) fun ws s2 ⟨zs, H2, I2, rz, l2, q2⟩ => ⟨I2.kIn, ?_⟩
  rw [hks]
  exact run_fnN (us := [.ref a]) (vs := [.ref a]) F hr hb hx I2 (.cons rfl .nil) rz rfl l2 q2
end
end FR
set_option Elab.async false
set_option linter.all false
set_option maxRecDepth 100000
/-! texts in order: one order alone -/
namespace FR
open PySem PySem.Spec PyProof.Rows
/-- a stands no later than b -/
def leS (a b : Str) : Prop := ltCps b.cps.toList a.cps.toList = false
theorem lt_trans' : ∀ {a b c : List Nat}, ltCps b a = false → ltCps c b = false → ltCps c a = false
  | [], [], [], _, _ => rfl
  | [], [], _ :: _, _, _ => rfl
  | [], _ :: _, [], _, h => by simp [ltCps] at h
  | [], _ :: _, _ :: _, _, _ => rfl
  | _ :: _, [], _, h, _ => by simp [ltCps] at h
  | _ :: _, _ :: _, [], _, h => by simp [ltCps] at h
  | x :: r, y :: t, z :: u, h1, h2 => by
    simp only [ltCps, Bool.or_eq_false_iff, decide_eq_false_iff_not, Bool.and_eq_false_iff, beq_eq_false_iff_ne, Nat.not_lt] at h1 h2 ⊢
    refine ⟨by omega, ?_⟩
    by_cases e : z = x
    · have e1 : y = x := by omega
      have e2 : z = y := by omega
      refine .inr (lt_trans' (h1.2.resolve_left fun n => n e1) (h2.2.resolve_left fun n => n e2))
    · exact .inl e
theorem lt_anti : ∀ {a b : List Nat}, ltCps b a = false → ltCps a b = false → a = b
  | [], [], _, _ => rfl
  | [], _ :: _, _, h => by simp [ltCps] at h
  | _ :: _, [], h, _ => by simp [ltCps] at h
  | x :: r, y :: t, h1, h2 => by
    simp only [ltCps, Bool.or_eq_false_iff, decide_eq_false_iff_not, Bool.and_eq_false_iff, beq_eq_false_iff_ne, Nat.not_lt] at h1 h2
    have e : x = y := by omega
    rw [e, lt_anti (h1.2.resolve_left fun n => n e.symm) (h2.2.resolve_left fun n => n e)]
theorem leS_anti {a b : Str} (h1 : leS a b) (h2 : leS b a) : a = b := by
  obtain ⟨⟨x⟩⟩ := a
  obtain ⟨⟨y⟩⟩ := b
  have := lt_anti h1 h2
  simp only at this
  rw [this]
theorem rising_pair : ∀ {p : Str} {l : List Str}, risingS p l = true → (p :: l).Pairwise leS
  | p, [], _ => by simp
  | p, x :: r, h => by
    simp only [risingS, Bool.and_eq_true, Bool.not_eq_true'] at h
    have ih := rising_pair h.2
    refine List.pairwise_cons.mpr ⟨fun y hy => ?_, ih⟩
    rcases List.mem_cons.mp hy with rfl | m
    · exact h.1
    · exact lt_trans' h.1 ((List.pairwise_cons.mp ih).1 y m)
theorem sorted_pair : ∀ {l : List Str}, sortedS l = true → l.Pairwise leS
  | [], _ => .nil
  | x :: r, h => rising_pair h
theorem sorted_one {xs ys : List Str} (h1 : sortedS xs = true) (h2 : sortedS ys = true) (p : xs.Perm ys) : xs = ys :=
  p.eq_of_pairwise (fun a b _ _ h h' => leS_anti h h') (sorted_pair h1) (sorted_pair h2)
/-- the texts in order -/
noncomputable def srt (xs : List Str) : List Str := open Classical in if h : ∃ ys : List Str, ys.Perm xs ∧ sortedS ys = true then Classical.choose h else []
theorem srt_eq {xs ys : List Str} (p : ys.Perm xs) (h : sortedS ys = true) : ys = srt xs := by
  unfold srt
  have e : ∃ ys : List Str, ys.Perm xs ∧ sortedS ys = true := ⟨ys, p, h⟩
  rw [dif_pos e]
  have c := Classical.choose_spec e
  exact sorted_one h c.2 (p.trans c.1.symm)
theorem srt_perm {xs ys zs : List Str} (p : ys.Perm xs) (h : sortedS ys = true) (q : xs.Perm zs) : srt xs = srt zs := by
  rw [← srt_eq p h, ← srt_eq (p.trans q) h]
section
open L2
variable {X : Cx} {tg : Expr}
def iSeq (K : PySem.W.Frag) (tl : TE) : TI := fun σ H R => tl σ H fun x H1 => ∃ a, x = .ref a ∧ ((∃ xs, SqL K H1 a xs ∧ R (Itl K a) H1) ∨ ∃ xs, SqT K H1 a xs ∧ R (Itt K a) H1)
/-- a list or a tuple, walked -/
theorem pi_seq {l : Expr} {tl : TE} (hl : PE X l tl) : PI X tg l (iSeq X.K tl) := by
  refine ⟨fun pins s σ H R I h => ?_⟩
  refine thn (hl.run pins s σ H _ I h) fun v s1 ⟨x, H1, I1, r1, q1⟩ => ?_
  obtain ⟨a, rfl, ⟨xs, hq, q⟩ | ⟨xs, hq, q⟩⟩ := q1
  · cases r1
    obtain ⟨its, rv, p, hz⟩ := I1.list hq
    exact wpAny_pyIter_list p.isList (pi_one I1 _ (turn_list a _) ⟨_, Heap.get?_push_size _ rfl, rfl, rfl⟩ q)
  · cases r1
    obtain ⟨its, rv, p, hz⟩ := I1.tuple hq
    exact wpAny_pyIter_tuple (show s1.heap.IsTuple a its.toArray from p) (pi_one I1 _ (turn_tuple a _) ⟨_, Heap.get?_push_size _ rfl, rfl, rfl⟩ q)
variable {J : It} {n : Nat} {G : Hp → Prop} {Y : Nat → Hp → V → Hp → Prop}
theorem round_it (w : Walk J n G Y) {g : TG} {σ0 : L2.St} {B : L2.St → Hp → (Hp → Prop) → Prop} {Qd : Hp → Prop} (Pv : Nat → Hp → Prop) (hG : ∀ i H, i ≤ n → Pv i H → G H)
    (hs : ∀ i x H H', i < n → Pv i H → Y i H x H' → g x σ0 H' fun σ2 H2 => B σ2 H2 (Pv (i + 1))) (hd : ∀ H, Pv n H → Qd H) : Round J g σ0 B Qd (fun i m H => m = n - i ∧ i ≤ n ∧ Pv i H) := by
  rintro i m H ⟨rfl, hi, p⟩
  have q := hG i H hi p
  by_cases lt : i < n
  · exact .inr ⟨w.goes i H lt q, Pv (i + 1), fun H' p' => ⟨n - (i + 1), by omega, rfl, lt, p'⟩, fun x H' y => hs i x H H' lt p (w.yields i H x H' lt q y)⟩
  · have e : i = n := by omega
    subst e
    exact .inl ⟨w.stops H q, hd H p⟩
theorem dc_it (w : Walk J n G Y) {g : TG} {tt : TT} {tk tv : TE} {vs : List Nat} {σ : L2.St} {H1 : Hp} {D : Addr} {Qd : Hp → Prop} (Pv : Nat → Hp → Prop) (h0 : Pv 0 (upd H1 D (.dK []))) (hG : ∀ i H, i ≤ n → Pv i H → G H)
    (hs : ∀ i x H H', i < n → Pv i H → Y i H x H' → g x (wipe σ vs) H' fun σ2 H2 => wipe σ2 vs = wipe σ vs ∧ tt σ2 H2 fun b H3 =>
      if b = true then tk σ2 H3 fun y H4 => tv σ2 H4 fun z H5 => ∃ kvs k, y = kV k ∧ H5 D = some (.dK kvs) ∧ kvs.length < sizeLine ∧ Pv (i + 1) (upd H5 D (.dK (putK kvs k z))) else Pv (i + 1) H3) (hd : ∀ H, Pv n H → Qd H) :
    ∃ W : Nat → Nat → Hp → Prop, (∃ m, W 0 m (upd H1 D (.dK []))) ∧ ∀ i m H, W i m H →
      (J.stop i H ∧ Qd H) ∨ (J.go i H ∧ ∃ Nx : Hp → Prop, (∀ H', Nx H' → ∃ m', m' < m ∧ W (i + 1) m' H') ∧ ∀ x H', J.yld i H x H' → g x (wipe σ vs) H' fun σ2 H2 => wipe σ2 vs = wipe σ vs ∧ tt σ2 H2 fun b H3 =>
        if b = true then tk σ2 H3 fun y H4 => tv σ2 H4 fun z H5 => ∃ kvs k, y = kV k ∧ H5 D = some (.dK kvs) ∧ kvs.length < sizeLine ∧ Nx (upd H5 D (.dK (putK kvs k z))) else Nx H3) :=
  ⟨fun i m H => m = n - i ∧ i ≤ n ∧ Pv i H, ⟨n, by simp, Nat.zero_le _, h0⟩, fun i m H ⟨e, hi, p⟩ => by
    subst e
    have q := hG i H hi p
    by_cases lt : i < n
    · exact .inr ⟨w.goes i H lt q, Pv (i + 1), fun H' p' => ⟨n - (i + 1), by omega, rfl, lt, p'⟩, fun x H' y => hs i x H H' lt p (w.yields i H x H' lt q y)⟩
    · have e : i = n := by omega
      subst e
      exact .inl ⟨w.stops H q, hd H p⟩⟩
/-- a lock taken off again leaves nothing -/
theorem keep_lock {H H' : Hp} {d : Addr} {u : HO} {od : Obj} {M : List Addr} (hd : H d = some u) (k : Keep M (upd H d (.frz od u)) H') : Keep M H (upd H' d u) := fun b o e hb => by
  by_cases c : b = d
  · subst c
    rw [upd_same]
    rw [hd] at e
    exact e
  · rw [upd_ne c]
    exact k b o (by rw [upd_ne c]; exact e) hb
end
end FR
set_option Elab.async false
set_option linter.all false
set_option maxRecDepth 100000
/-! rules for within a block: the written part of the context is given by hand -/
namespace FR
open PySem PySem.Spec PyProof.Rows L2
section
variable {X : Cx} {K : PySem.W.Frag} {e : Expr} {f : Str} {pos : Pos} {ta : TE} {tg : Expr}
theorem pe_fldK (h : X.K = K) (he : PE X e ta) (hb : attributeBase e f X.env (eval e X.env) = eval e X.env) : PE X (.Attribute e f pos) (tFld K ta f) := h ▸ pe_fld he hb
theorem pi_tupK (h : X.K = K) (he : PE X e ta) : PI X tg e (iTup K ta) := h ▸ pi_tup he
theorem pi_listK (h : X.K = K) (he : PE X e ta) : PI X tg e (iList K ta) := h ▸ pi_list he
def rTupOf (K : PySem.W.Frag) : List V → Hp → VK → Prop := fun xs H Q => ∃ p ys, xs = [.ref p] ∧ ((SqL K H p ys ∧ ∀ l, H l = none → Q (.ref l) (upd H l (.tup ys))) ∨ (SqT K H p ys ∧ Q (.ref p) H))
theorem call_tuple_ofK (h : X.K = K) : CallR X (.type "tuple") (rTupOf K) := h ▸ call_tuple_of
theorem call_lofNK (h : X.K = K) : CallR X (.type "list") (rLofN K) := h ▸ call_lofN
end
end FR
set_option Elab.async false
set_option linter.all false
set_option maxRecDepth 100000
/-! x(..) where x is a local instance whose class has __call__ -/
namespace FR
open PySem PySem.Spec PyProof.Rows L2
theorem fn_of {K : PySem.W.Frag} {x qual : Str} {st : Stmt} {f : Addr} {fd : FuncData} (F : L2.Fun K x qual st f fd) : PySem.W.fnIn K f = true := by
  obtain ⟨oc, od, kV, doc, pm, an, cdv, ct, osl, e, lk, _⟩ := F.ex
  unfold PySem.W.fnIn
  rw [lk]
section
variable {M : Model} {A : Around} {E : Value → Shared → Prop} {s : Shared} {pos : Pos} {f : Value} {first : List Value} {Q : Value → Shared → Prop}
/-- a callee whose answer its caller keeps -/
theorem with_caller {args : List (Bool × Sem Value)} {keywords : List (Option Str × Sem Value)} (plain : (args.any (·.1) || keywords.any (·.1.isNone)) = false)
    (h : wpAny M A (evalArgs f true args keywords) (fun a t => PySem.W.Looks M t.heap (keeperOf f) .caller ∧ wpAny M A (call f (first ++ a.pos) a.kw) Q E t) E s) : wpAny M A (callWith pos f first args keywords) Q E s := by
  unfold callWith
  apply wpAny_bind
  apply wpAny_holding
  refine wpAny_mono h (fun a t z => ?_) (fun _ _ y => y)
  obtain ⟨L, z⟩ := z
  apply wpAny_bind
  apply wpAny_standAt
  simp only [plain]
  apply wpAny_bind
  refine L.here ?_
  dsimp only
  apply wpAny_bind
  refine wpAny_mono (wpAny_operateT z) (fun r u hr => ?_) (fun _ _ y => y)
  apply wpAny_bind
  apply wpAny_holding
  exact wpAny_point (wpAny_pure hr)
end
section
variable {X : Cx} {CX : CXT} {k n : Nat} {f C : Addr} {fd : FuncData} {ps ks : List Str} {sp : Sp} {dvs : List V} {ds : List Value} {E : XK} {x : Str} {p pos : Pos} {i : Nat} {e : Expr} {es : List Expr} {kws : List Keyword} {t tk : TA} {g : List Value → List Value → List Value} {gV : List V → List V → List V}
/-- the class at C has the def at f for its calls -/
structure CallsBy (K : PySem.W.Frag) (C f : Addr) : Prop where
  find : PySem.W.findIn K (.ref C) "__call__" = some (some (.ref f))
  isf : PySem.W.isFn K (.ref f) = true
  fnI : PySem.W.fnIn K f = true
def tInst (i : Nat) (C : Addr) (sp : Sp) (dvs : List V) (E : XK) (t : TA) : TE := fun σ H Q => ∃ a, σ[i]? = some (some (.ref a)) ∧ t σ H fun vs H1 => (∃ dx fs, H1 a = some (.ins C dx fs)) ∧ sp (.ref a :: (vs ++ dvs)) H1 Q E
def tInstK (i : Nat) (C : Addr) (m : Nat) (sp : Sp) (gV : List V → List V → List V) (E : XK) (tk : TA) : TE := fun σ H Q => ∃ a, σ[i]? = some (some (.ref a)) ∧ tk σ H fun zs H1 => (∃ dx fs, H1 a = some (.ins C dx fs)) ∧ zs.length = m ∧ sp (gV [.ref a] zs) H1 Q E
theorem pe_inst (hv : PE X (.Name x p) (tVar i)) (c : CallsBy X.K C f) (F : FnOk X.prog X.w X.K X.mg X.base CX k f fd ps sp) (hr : Room k X.A) (hb : Binds X.K fd ps ds) (hd : Vals dvs ds) (hx : Passes CX X E) (ha : PA X (e :: es) t)
    (he : starEach (e :: es) X.env = (false, eval e X.env) :: starEach es X.env := by rfl) (hpl : (backTo pos (starEach es X.env)).any (·.1) = false := by rfl) :
    PE X (.Call (.Name x p) (e :: es) [] pos) (tInst i C sp dvs E t) := by
  refine ⟨fun pins s σ H Q I h => ?_⟩
  obtain ⟨a, h1, h2⟩ := h
  refine wpAny_Call_Name_kw (thn (hv.run pins s σ H (fun v H' => v = .ref a ∧ t σ H' fun vs H1 => (∃ dx fs, H1 a = some (.ins C dx fs)) ∧ sp (.ref a :: (vs ++ dvs)) H1 Q E) I ⟨_, h1, rfl, h2⟩) fun u s1 hh => ?_)
  obtain ⟨v, H1, I1, r1, rfl, q⟩ := hh
  cases (show u = Value.ref a from r1)
  have run := ha.run pos pins s1 σ H1 _ I1 q
  rw [he] at run ⊢
  refine with_caller (by show ((false || (backTo pos (starEach es X.env)).any (·.1)) || false) = false; rw [hpl]; rfl) (PySem.Calls.evalArgs_plain ?_)
  refine wpAny_mono run (fun us s2 hz => ?_) (fun _ _ y => y)
  obtain ⟨vs, H2, I2, r2, ⟨dx, fs, ea⟩, q2⟩ := hz
  obtain ⟨od, J⟩ := ins_inst I2 ea
  refine ⟨PySem.W.kco_keeper J rfl, ?_⟩
  have r3 : Vals (.ref a :: (vs ++ dvs)) (.ref a :: (us ++ ds)) := .cons rfl (r2.append hd)
  have hl : ((Value.ref a :: us) ++ ds).length = ps.length := by rw [← F.len _ _ _ _ q2, r3.length]; rfl
  refine wpAny_call (PySem.W.kco_code I2.kIn J rfl c.find c.isf c.fnI (codeAny_mono (F.run X.A X.stack s2 H2 ⟨.ref a :: us, []⟩ (.ref a :: (us ++ ds)) (.ref a :: (vs ++ dvs)) Q E hr I2.env0 (hb s2 (.ref a :: us) I2.kIn hl) r3 q2) fun r s' hq => ?_))
  cases r with
  | error e => exact hx pins σ H2 s2 e s' I2 hq
  | ok fl =>
    cases fl with
    | ret u => exact I2.after hq
    | next => exact False.elim hq
    | brk => exact False.elim hq
    | cont => exact False.elim hq
theorem pe_instK (hv : PE X (.Name x p) (tVar i)) (c : CallsBy X.K C f) (F : FnOk X.prog X.w X.K X.mg X.base CX k f fd ps sp) (hr : Room k X.A) (hb : KBn X.K fd ps 1 ks g gV) (hx : Passes CX X E) (hkw : PK X kws tk)
    (hall : (backToKw pos (keywordEach kws X.env)).all (·.1.isSome) = true := by rfl) (hks : (backToKw pos (keywordEach kws X.env)).filterMap (·.1) = ks := by rfl)
    (hpl : ((backTo pos (starEach [] X.env)).any (·.1) || (backToKw pos (keywordEach kws X.env)).any (·.1.isNone)) = false := by rfl) :
    PE X (.Call (.Name x p) [] kws pos) (tInstK i C ks.length sp gV E tk) := by
  refine ⟨fun pins s σ H Q I h => ?_⟩
  obtain ⟨a, h1, h2⟩ := h
  refine wpAny_Call_Name_kw (thn (hv.run pins s σ H (fun v H' => v = .ref a ∧ tk σ H' fun zs H1 => (∃ dx fs, H1 a = some (.ins C dx fs)) ∧ zs.length = ks.length ∧ sp (gV [.ref a] zs) H1 Q E) I ⟨_, h1, rfl, h2⟩) fun u s1 hh => ?_)
  obtain ⟨v, H1, I1, r1, rfl, q⟩ := hh
  cases (show u = Value.ref a from r1)
  refine with_caller hpl (evalArgs_kw2_nil hall ?_)
  refine wpAny_mono (hkw.run pos pins s1 σ H1 _ I1 q) (fun ws s2 hz => ?_) (fun _ _ y => y)
  obtain ⟨zs, H2, I2, rz, ⟨dx, fs, ea⟩, l2, q2⟩ := hz
  obtain ⟨od, J⟩ := ins_inst I2 ea
  refine ⟨PySem.W.kco_keeper J rfl, ?_⟩
  rw [hks]
  have r1 : Vals [V.ref a] [Value.ref a] := .cons rfl .nil
  refine wpAny_call (PySem.W.kco_code I2.kIn J rfl c.find c.isf c.fnI (codeAny_mono (F.run X.A X.stack s2 H2 ⟨[.ref a], ks.zip ws⟩ (g [.ref a] ws) (gV [.ref a] zs) Q E hr I2.env0 (hb.to s2 [.ref a] ws I2.kIn rfl (rz.length.symm.trans l2)) (hb.rel r1 rz) q2) fun r s' hq => ?_))
  cases r with
  | error e => exact hx pins σ H2 s2 e s' I2 hq
  | ok fl =>
    cases fl with
    | ret u => exact I2.after hq
    | next => exact False.elim hq
    | brk => exact False.elim hq
    | cont => exact False.elim hq
end
end FR
set_option Elab.async false
set_option linter.all false
set_option maxRecDepth 100000
/-! == of two instances of one class that has no == of its own -/
namespace FR
open PySem PySem.Spec PyProof.Rows L2
section
variable {prog : Program} {w : World} {A : Around} {E : Value → Shared → Prop} {s : Shared} {K : PySem.W.Frag} {x y C : Addr} {ox oy : Obj} {od od' : Option Obj}
theorem call_objEq2 {Q : Value → Shared → Prop} (hxy : x ≠ y) (X : K.In s.heap) (I : PySem.W.InstAt s.heap x ox C od) (J : PySem.W.InstAt s.heap y oy C od') (hm : PySem.W.mroIn K C (.type "object") = some true) (hn : ox.cls ≠ .type "tuple") (hq : Q .notImplemented s) :
    wpAny (model prog w) A (call (.builtin "object.__eq__") [.ref x, .ref y]) Q E s := by
  refine wpAny_call (codeAny_call_builtin F.cmp_object.eq.plain F.cmpEntry_eq (PySem.W.check_slot F.cmpKind_eq F.cmpSplit_eq (I.type.andThen (PySem.W.looks_mroIn X hm)) (F.cmpArgs_eq _ _) ?_))
  unfold Builtin.«object.__eq__»
  repeat (first | with_reducible refine wpAny_isSame_ref_other hxy I.at_ J.at_ hn ?_ | wp_step)
  exact hq
theorem eq_insts {Q : Value → Shared → Prop} (hxy : x ≠ y) (hu : A.units < cLine) (X : K.In s.heap) (I : PySem.W.InstAt s.heap x ox C od) (J : PySem.W.InstAt s.heap y oy C od') (hm : PySem.W.mroIn K C (.type "object") = some true)
    (hs : PySem.W.findIn K (.ref C) "__eq__" = some (some (.builtin "object.__eq__"))) (hn : ox.cls ≠ .type "tuple") (hn' : oy.cls ≠ .type "tuple") (h : Q (.bool false) s) : wpAny (model prog w) A (richCompare .Eq (.ref x) (.ref y)) Q E s := by
  have one : wpAny (model prog w) A (tryCompare (.ref x) "__eq__" (.ref y)) (fun r s' => r = none ∧ s' = s) E s := by
    unfold tryCompare
    exact wpAny_bind (HN.ifBound_objEq X I hs (call_objEq2 hxy X I J hm hn (wpAny_pure ⟨rfl, rfl⟩)))
  have two : wpAny (model prog w) A (tryCompare (.ref y) "__eq__" (.ref x)) (fun r s' => r = none ∧ s' = s) E s := by
    unfold tryCompare
    exact wpAny_bind (HN.ifBound_objEq X J hs (call_objEq2 (Ne.symm hxy) X J I hm hn' (wpAny_pure ⟨rfl, rfl⟩)))
  simp only [richCompare, cmpInfo_Eq, oneThing_ref]
  refine wpAny_holding (wpAny_bind (wpAny_cRoomFor hu ?_))
  refine wpAny_bind (I.type.here (wpAny_bind (J.type.here ?_)))
  simp only [bne_self_eq_false, Bool.false_eq_true, if_false, Bool.not_false, if_true]
  refine wpAny_bind (wpAny_pure ?_)
  simp only [Bool.false_eq_true, if_false, Bool.not_false, if_true]
  refine wpAny_bind (m := tryCompare (.ref x) _ (.ref y)) (wpAny_mono one (fun r s1 z => ?_) fun _ _ e => e)
  obtain ⟨rfl, rfl⟩ := z
  refine wpAny_bind (m := tryCompare (.ref y) _ (.ref x)) (wpAny_mono two (fun r s2 z => ?_) fun _ _ e => e)
  obtain ⟨rfl, rfl⟩ := z
  exact wpAny_bind (wpAny_rule (wpAny_bind (wpAny_isSame_ref_other hxy I.at_ J.at_ hn (wpAny_pure h))))
end
section
variable {X : Cx} {C : Addr}
def rEqObj (C : Addr) : R2 := fun x y H Q => ∃ a dx fs b dy gs, x = .ref a ∧ y = .ref b ∧ a ≠ b ∧ H a = some (.ins C dx fs) ∧ H b = some (.ins C dy gs) ∧ Q (.bl false) H
theorem op_eqObj (hm : PySem.W.mroIn X.K C (.type "object") = some true) (hs : PySem.W.findIn X.K (.ref C) "__eq__" = some (some (.builtin "object.__eq__"))) (hu : X.A.units < cLine) : OpR X (compareOp .Eq) (rEqObj C) := by
  intro pins s σ H x y v u Q I rx ry h
  obtain ⟨a, dx, fs, b, dy, gs, rfl, rfl, ne, ha, hb, q⟩ := h
  cases (show v = Value.ref a from rx)
  cases (show u = Value.ref b from ry)
  obtain ⟨od, J⟩ := ins_inst I ha
  obtain ⟨od', J'⟩ := ins_inst I hb
  show wpAny _ _ (richCompare .Eq (.ref a) (.ref b)) _ _ _
  exact eq_insts ne hu I.kIn J J' hm hs (fun z => by cases z) (fun z => by cases z) ⟨.bl false, H, I, rfl, q⟩
end
end FR
set_option Elab.async false
set_option linter.all false
set_option maxRecDepth 100000
/-! a datum in a list of data, inside a comprehension -/
namespace FR
open PySem PySem.Spec PyProof.Rows L2
theorem op_inDK {X : Cx} {K : PySem.W.Frag} (hK : X.K = K) (hu : X.A.units + 65 < cLine) : OpR X (compareOp .In) (rInD K) := hK ▸ op_inD hu
end FR
set_option Elab.async false
set_option linter.all false
set_option maxRecDepth 100000
/-! C(..) in a try: what the __init__ lets out is taken at the slots of the moment -/
namespace FR
open PySem PySem.Spec PyProof.Rows L2
def tMakeS (C : Addr) (sp : Sp) (E : L2.St → XK) (t : TA) : TE := fun σ H Q => t σ H fun vs H1 =>
  ∀ x dx, H1 x = none → H1 dx = none → dx ≠ x → sp (.ref x :: vs) (upd (upd H1 dx (.own x)) x (.ins C dx [])) (fun v H2 => v = .non ∧ Q (.ref x) H2) (E σ)
section
variable {X : Cx} {CX : CXT} {k : Nat} {f C : Addr} {fd : FuncData} {ps : List Str} {sp : Sp} {E : L2.St → XK} {x : Str} {p pos : Pos} {e : Expr} {es : List Expr} {t : TA}
theorem pe_makeS (M : Mk X.K C f) (F : FnOk X.prog X.w X.K X.mg X.base CX k f fd ps sp) (hr : Room (k + 1) X.A) (hg : Gl X x) (hm : X.mg x = some (.ref C)) (hb : Binds X.K fd ps []) (hx : ∀ σ, PassesAt CX X σ (E σ)) (ha : PA X (e :: es) t)
    (hdb : (x == ("__debug__" : Str)) = false := by decide)
    (he : starEach (e :: es) X.env = (false, eval e X.env) :: starEach es X.env := by rfl)
    (hpl : (backTo pos (starEach es X.env)).any (·.1) = false := by rfl) : PE X (.Call (.Name x p) (e :: es) [] pos) (tMakeS C sp E t) := by
  refine ⟨fun pins s σ H Q I h => wpAny_Call_Name_kw (ld_glob I hg hm ?_ hdb)⟩
  refine PySem.W.callWith_K (h₀ := X.base) I.ok.mod.kin M.kp (thn (ha.run pos pins s σ H _ I h) fun us s1 hh => ?_) he hpl
  obtain ⟨vs, H1, I1, rv, z⟩ := hh
  refine ⟨I1.kIn, ?_⟩
  have z0 := z (s1.heap.objs.size + 1) s1.heap.objs.size (I1.hok.fresh (Nat.le_succ _)) (I1.hok.fresh (Nat.le_refl _)) (Nat.ne_of_lt (Nat.lt_succ_self _))
  have I2 := Inv.made (C := C) I1
  have r2 : Vals (V.ref (s1.heap.objs.size + 1) :: vs) (Value.ref (s1.heap.objs.size + 1) :: us) := .cons rfl rv
  have hl : (Value.ref (s1.heap.objs.size + 1) :: us).length = ps.length := by
    rw [← r2.length]
    exact F.len _ _ _ _ z0
  have b := hb _ (Value.ref (s1.heap.objs.size + 1) :: us) I2.kIn (by rw [List.append_nil]; exact hl)
  rw [List.append_nil] at b
  refine wpAny_call (make_map (f := f) I1.kIn M.makes M.init (beq_iff_eq.mp M.fn) (codeAny_mono (F.run _ X.stack _ _ ⟨Value.ref (s1.heap.objs.size + 1) :: us, []⟩ _ _ _ (E σ) (hr.make C us []) (I2.env0.make C us []) b r2 z0) fun res s' y => ?_))
  cases res with
  | error e => exact hx σ pins _ _ e s' I2 y
  | ok fl =>
    cases fl with
    | ret u =>
      obtain ⟨v, H', I3, q1, q2, q3⟩ := I2.after y
      subst q2
      exact ⟨q1, ⟨V.ref (s1.heap.objs.size + 1), H', I3, rfl, q3⟩⟩
    | _ => exact y.elim
end
end FR
set_option Elab.async false
set_option linter.all false
set_option maxRecDepth 100000
set_option maxHeartbeats 4000000
/-! anything == a text; a thing == itself -/
namespace FR
open PySem PySem.Spec PyProof.Rows L2 TL PySem.SeqAt
section
variable {X : Cx}
/-- what «v == the text b» gives -/
def EqT (K : PySem.W.Frag) (H : Hp) (v : V) (b : Str) (r : Bool) : Prop :=
  (∃ d, Dp K H v d ∧ SeqAt.shaped d = true ∧ SeqAt.shaped (.str b) = true ∧ PyData.eqv d (.str b) = r) ∨ ∃ (a : Addr) (kvs : List (Key × V)), v = .ref a ∧ H a = some (.dK kvs) ∧ false = r
def rEqT (K : PySem.W.Frag) : R2 := fun x y H Q => ∃ (b : Str) (r : Bool), y = .str b ∧ EqT K H x b r ∧ Q (.bl r) H
theorem op_eqT (hu : X.A.units + 65 < cLine) : OpR X (compareOp .Eq) (rEqT X.K) := by
  intro pins s σ H x y v u Q I rx ry h
  obtain ⟨b, r, rfl, ⟨d, hd, s1, s2, rfl⟩ | ⟨a, kvs, rfl, ha, rfl⟩, q⟩ := h
  · exact op_eqD (by omega) pins s σ H x _ v u Q I rx ry ⟨d, .str b, hd, .str b, s1, s2, q⟩
  · cases (show v = Value.ref a from rx)
    obtain ⟨t, rfl⟩ : ∃ t, u = Value.str b t := ry
    obtain ⟨_, _, vs, kv, o, es, ep, e, hx, hd, _, _, _⟩ := (show ObjOk X.prog X.w H s.heap a (.dK _) from I.hok _ _ ha)
    have td : s.TypeIs (.ref a) "dict" := ⟨o, e, hx.1⟩
    have ts : s.TypeIs (.str b t) "str" := typeIs_str s b t
    obtain ⟨cls, dd, data, sl⟩ := o
    obtain rfl : cls = .type "dict" := hx.1
    obtain rfl : data = .dict es ep := hd
    refine PySem.W.cmp_ofEq (rc_eq_decline_or (k := false) td ts (by decide) F.sub_str_dict F.slot_dict_eq F.slot_str_eq_refl
      (fun _ hq => call_meets F.slot_dict_eq td F.entry_dict_eq (F.args_dict_eq_2 _ _) (dict_eq_str b t a (.type "dict") es ep dd sl) ⟨e, hq⟩)
      (fun _ hq => call_meets F.slot_str_eq_refl ts F.entry_str_eq (F.args_str_eq_2 _ _) (str_eq_dict b t a (.type "dict") es ep dd sl) ⟨e, hq⟩)
      (fun _ hq => wpAny_of_eq (rfl : isSame (.ref a) (.str b t) = pure false) hq) (.inr (by omega)) ⟨.bl false, H, I, rfl, q⟩)
theorem eqAt_id {A : Around} {s : Shared} (v : Value) : EqAt A s v v true := fun prog w E Q h => by
  unfold eqBool
  exact wpAny_holding (wpAny_ite_split (fun _ => wpAny_bind (wpAny_rule (wpAny_pure h))) (fun n => absurd (beq_self_eq_true v) n))
/-- a thing that equals itself -/
def Self (K : PySem.W.Frag) (H : Hp) (x : V) : Prop := (∃ d, Dp K H x d ∧ SeqAt.shaped d = true ∧ PyData.eqv d d = true) ∨ (∃ a xs, x = .ref a ∧ SqL K H a xs) ∨ ∃ a ks ms, x = .ref a ∧ Rd H a (.dK ks) ∧ DpK K H ks ms ∧ eqDD ms ms = true
def rSelf (K : PySem.W.Frag) : R2 := fun x y H Q => x = y ∧ Self K H x ∧ Q (.bl true) H
theorem op_eqSelf (hu : X.A.units + 65 < cLine) : OpR X (compareOp .Eq) (rSelf X.K) := by
  intro pins s σ H x y v u Q I rx ry h
  obtain ⟨rfl, ⟨d, hd, s1, e⟩ | ⟨a, xs, rfl, hs⟩ | ⟨a, ks, ms, rfl, ha, hm, e⟩, q⟩ := h
  · exact op_eqD (by omega) pins s σ H x _ v u Q I rx ry ⟨d, d, hd, hd, s1, s1, by rw [e]; exact q⟩
  · cases (show v = Value.ref a from rx)
    cases (show u = Value.ref a from ry)
    obtain ⟨its, rv, hl, _⟩ := I.list hs
    refine SeqAt.eq_listAt (e := fun _ => true) hl.isList hl.isList rfl (by omega) (fun j h1 h2 => eqAt_id _) ⟨.bl true, H, I, ?_, q⟩
    show Value.bool _ = Value.bool true
    simp
  · exact op_eqDD hu pins s σ H _ _ v u Q I rx ry ⟨a, a, ks, ks, ms, ms, rfl, rfl, ha, ha, hm, hm, by rw [e]; exact q⟩
theorem op_eqSelfK {X : Cx} {K : PySem.W.Frag} (h : X.K = K) (hu : X.A.units + 65 < cLine) : OpR X (compareOp .Eq) (rSelf K) := h ▸ op_eqSelf hu
end
end FR
set_option Elab.async false
set_option linter.all false
set_option maxRecDepth 100000
set_option maxHeartbeats 4000000
/-! exceptions of the program over a built-in class that is made by another one's maker (KeyError by LookupError's) -/
namespace PySem
namespace ExM
open PySem.W PySem.Calls PyProof.Rows PySem.HandSPX Builtin Builtin.ObjectAttr
/-- what is asked of the classes behind the program's own -/
structure Rear (B : String) (tl : List Value) : Prop where
  b : tl.contains (.type B) = true
  o : tl.contains (.type "object") = true
  a : tl.contains (.type "AttributeError") = false
  n : tl.contains (.type "NameError") = false
  ne : tl.isEmpty = false
  ps : ∀ self : Value, refuseLoop self "__setattr__" tl = pure ()
def keyTail : List Value := [.type "KeyError", .type "LookupError", .type "Exception", .type "BaseException", .type "object"]
def lookTail : List Value := [.type "LookupError", .type "Exception", .type "BaseException", .type "object"]
theorem rear_key : Rear "LookupError" keyTail := ⟨by decide +kernel, by decide +kernel, by decide +kernel, by decide +kernel, rfl, fun self => by kernel_rfl⟩
theorem rear_look : Rear "LookupError" lookTail := ⟨by decide +kernel, by decide +kernel, by decide +kernel, by decide +kernel, rfl, fun self => by kernel_rfl⟩
/-- some of the program's classes ahead of these -/
inductive Over (tl : List Value) : List Value → Prop
  | base : Over tl tl
  | ref (c : Addr) {l : List Value} : Over tl l → Over tl (.ref c :: l)
theorem Rear.ref {B : String} {l : List Value} (ih : Rear B l) (c : Addr) : Rear B (.ref c :: l) := by
  refine ⟨?_, ?_, ?_, ?_, rfl, fun self => by rw [refuseLoop_ref]; exact ih.ps self⟩
  · rw [List.contains_cons, ih.b, Bool.or_true]
  · rw [List.contains_cons, ih.o, Bool.or_true]
  · rw [List.contains_cons, ih.a]; rfl
  · rw [List.contains_cons, ih.n]; rfl
theorem Over.rear {B : String} {tl l : List Value} (r : Rear B tl) (h : Over tl l) : Rear B l := by
  induction h with
  | base => exact r
  | ref c _ ih => exact ih.ref c
section
variable {M : Model} {A : Around} {E : Value → Shared → Prop} {hp : Heap} {gs : Array GenState} {dr : Drawn} {tk : Nat} {os : OsState}
variable {nm q : Str} {C N : Addr} {bs bm bB : List Value} {hd : Bool} {sn : List Str} {sub : List Value} {ab : Bool} {col : Option Bool} {dd : Option Addr} {k0 k1 k2 k3 k5 : Option Value} {B newId initId : String}
theorem check_newM (F : ExcBaseFacts B newId initId bB) (r : Rear B bm) {xs : List Value} {Q : Unit → Shared → Prop}
    (hC : hp.get? C = some (excClassObj nm q C N bs bm hd sn sub ab col dd k0 k1 k2 k3 k5 newId)) (z : Q () ⟨hp, gs, dr, tk, os⟩) :
    wpAny M A (checkBuiltinCall newId ⟨.ref C :: xs, []⟩) Q E ⟨hp, gs, dr, tk, os⟩ := by
  have c1 : (Value.ref C :: bm).contains (.type B) = true := by
    rw [List.contains_cons, r.b]
    exact Bool.or_true _
  have c2 := F.noStar
  unfold checkBuiltinCall
  simp only [F.newKind, F.newSplit, F.newRow]
  repeat (first
    | refine wpAny_loadPart_at hC ?_
    | (refine wpAny_isSubtype_exc hC ?_
       rw [c1])
    | refine wpAny_staticBase_exc hC ?_
    | refine wpAny_madeBy_exc hC ?_
    | simp only [bne_self_eq_false, Bool.false_eq_true, if_false]
    | wp_step)
  exact z
end
section
variable {prog : Program} {w : World} {A : Around} {E : Value → Shared → Prop} {R : Result → Shared → Prop} {hp : Heap} {gs : Array GenState} {dr : Drawn} {tk : Nat} {os : OsState}
variable {nm q : Str} {C N : Addr} {bs bm bB : List Value} {hd : Bool} {sn : List Str} {sub : List Value} {ab : Bool} {col : Option Bool} {dd : Option Addr} {k0 k1 k2 k3 k5 : Option Value} {B newId initId : String}
theorem newM (F : ExcBaseFacts B newId initId bB) (r : Rear B bm) {xs : List Value}
    (hC : hp.get? C = some (excClassObj nm q C N bs bm hd sn sub ab col dd k0 k1 k2 k3 k5 newId)) (hz : xs.length ≤ sizeLine)
    (z : R (.ok (.ret (.ref (hp.objs.size + 1)))) ⟨(hp.push (kdv_tup xs)).push (excO C hp.objs.size), gs, dr, tk, os⟩) :
    codeAny (model prog w) A (.builtin newId ⟨.ref C :: xs, []⟩) R ⟨hp, gs, dr, tk, os⟩ := by
  have ends := F.ends
  have c1 : (Value.ref C :: bm).contains (.type B) = true := by
    rw [List.contains_cons, r.b]
    exact Bool.or_true _
  have c2 : (Value.ref C :: bm).contains (.type "AttributeError") = false := by
    rw [List.contains_cons, r.a]
    rfl
  have c3 : (Value.ref C :: bm).contains (.type "NameError") = false := by
    rw [List.contains_cons, r.n]
    rfl
  refine codeAny_builtinAt F.entry ?_
  unfold Builtin.«BaseException.__new__»
  refine wpAt_bind ?_
  show wpAt _ _ _ (stack >>= fun _ => _) _ _ _
  refine wpAt_bind (wpAt_stack fun fr below => wpAt_of_wpAny ?_)
  wp_walk
  refine wpAt_of_wpAny ?_
  rw [F.owner]
  repeat (first
    | with_reducible refine wpAny_madeHere_exc F.canon hC ?_
    | with_reducible refine wpAny_loadPart_at hC ?_
    | (with_reducible refine wpAny_isSubtype_exc hC ?_
       first | rw [c1] | rw [c2] | rw [c3])
    | wp_step)
  show R _ _
  rw [Heap.size_push]
  exact z
/-- the class called: made, then its own __init__ -/
theorem callM (F : ExcBaseFacts B newId initId bB) (r : Rear B bm) {xs : List Value} {fI : Addr}
    (hC : hp.get? C = some (excClassObj nm q C N bs bm hd sn sub ab col dd k0 k1 k2 k3 k5 newId))
    (hi : W.Looks (model prog w) hp (typeLookup (.ref C) "__init__") (some (.ref fI))) (hb : ∀ self, W.Looks (model prog w) hp (bindSpecial (.ref fI) self) (.ref fI, [self])) (hz : xs.length ≤ sizeLine)
    (z : codeAny (model prog w) (A.under (.builtin "type.__call__" ⟨.ref C :: xs, []⟩)) (.call (.ref fI) ⟨.ref (hp.objs.size + 1) :: xs, []⟩) (W.InitBack (hp.objs.size + 1) R)
      ⟨(hp.push (kdv_tup xs)).push (excO C hp.objs.size), gs, dr, tk, os⟩) :
    codeAny (model prog w) A (.call (.ref C) ⟨xs, []⟩) R ⟨hp, gs, dr, tk, os⟩ := by
  have f1 := tc_lookup
  have f2 := tc_bind (.ref C)
  have ty : (⟨hp, gs, dr, tk, os⟩ : Shared).TypeIs (.ref C) "type" := ⟨_, hC, rfl⟩
  have body : ∀ {A : Around} {Q : Fin → Shared → Prop} {E : Value → Shared → Prop},
      codeAny (model prog w) A (.call (.ref fI) ⟨.ref (hp.objs.size + 1) :: xs, []⟩) (fun r s' => match r with
        | .ok (.ret v) => v = .none ∧ Q (.done (.ret (.ref (hp.objs.size + 1)))) s'
        | .ok _ => False
        | .error e => E e s') ⟨(hp.push (kdv_tup xs)).push (excO C hp.objs.size), gs, dr, tk, os⟩ →
      wpAny (model prog w) A (Builtin.«type.__call__» ⟨.ref C :: xs, []⟩) Q E ⟨hp, gs, dr, tk, os⟩ := by
    intro A Q E hq
    repeat (first
      | with_reducible refine wpAny_loadPart_at hC ?_
      | with_reducible refine wpAny_madeBy_exc hC ?_
      | wp_step)
    refine codeAny_call_builtin_code (Code.quiet_builtin _ F.quiet) (check_newM F r hC ?_)
    refine newM F r hC hz ?_
    show wpAny _ _ _ _ _ _
    have kp : ∀ b o, hp.get? b = some o → ((hp.push (kdv_tup xs)).push (excO C hp.objs.size)).get? b = some o := fun b o e => Heap.get?_push_of_some _ (Heap.get?_push_of_some _ e)
    have hC2 := kp _ _ hC
    have hg : ((hp.push (kdv_tup xs)).push (excO C hp.objs.size)).get? (hp.objs.size + 1) = some (excO C hp.objs.size) := by heap_get
    have cc : (Value.ref C :: bm).contains (.ref C) = true := by simp
    have i2 := hi.keeps kp
    have b2 := (hb (.ref (hp.objs.size + 1))).keeps kp
    unfold isInstance
    repeat (first
      | with_reducible refine wpAny_loadPart_at hg ?_
      | (with_reducible refine wpAny_isSubtype_exc hC2 ?_
         rw [cc])
      | wp_step)
    show wpAny _ _ (typeLookup (.ref C) _) _ _ _
    refine i2.at ?_
    refine wpAny_holding (wpAny_bind (b2.at ?_))
    refine wpAny_bind (wpAny_call (codeAny_mono hq fun res s' y => ?_))
    rcases res with e | fl
    · exact y
    · cases fl with
      | ret v =>
        obtain ⟨rfl, y⟩ := y
        first
          | exact wpAny_pure (wpAny_pure y)
          | (wp_walk; exact y)
      | _ => exact y.elim
  refine codeAny_of_tree ?_
  show wpAny _ _ (callAny (.ref C) _) _ _ _
  repeat (any_goals (first | assumption | with_reducible refine wpAny_loadPart_at hC ?_ | wp_step))
  refine ⟨rfl, ?_⟩
  refine codeAny_call_builtin_at (Code.quiet_builtin _ (by decide +kernel)) entry_typeCall (wpAny_check_type_call_sub hC (body ?_))
  refine codeAny_mono z fun res s' y => ?_
  rcases res with e | (v | _ | _ | _) <;> exact y
/-- self.name = v on one that has no dict yet -/
theorem osaM {K : W.Frag} {name : Str} {tn : Tok} {v : Value} {x : Addr} {fv : Array Value} {cd : ClassData}
    (X : K.In hp) (hx : hp.get? x = some { cls := .ref C, data := .fields fv }) (hcd : W.clsIn K C = some cd) (r : Rear B cd.mro) (hh : cd.hasDict = true) (ha : W.findIn K (.ref C) name = some none)
    (z : ∀ h' tk' dx, (∀ b o, b ≠ x → hp.get? b = some o → h'.get? b = some o) → hp.objs.size ≤ dx → dx ≠ x → h'.get? x = some { cls := .ref C, dict := some dx, data := .fields fv } →
      h'.Ns1 dx (fun y => if y = name then some v else none) → R (.ok (.ret .none)) ⟨h', gs, dr, tk', os⟩) :
    codeAny (model prog w) A (.call (.builtin "object.__setattr__") ⟨[.ref x, .str name tn, v], []⟩) R ⟨hp, gs, dr, tk, os⟩ := by
  have I : W.InstAt hp x { cls := .ref C, data := .fields fv } C none := ⟨hx, rfl, rfl, trivial⟩
  have SF := F.store_object
  have nx : x ≠ hp.objs.size := Nat.ne_of_lt (Heap.lt_size hx)
  have io : W.Looks (model prog w) hp (isInstance (.ref x) (.type "object")) true :=
    I.type.andThen (W.looks_mroIn X (by unfold W.mroIn; rw [hcd, Option.bind_some, if_neg (by rw [r.ne]; decide), r.o]))
  refine codeAny_call_builtin SF.slot.plain SF.entry (@W.check_slot (model prog w) _ _ ⟨hp, gs, dr, tk, os⟩ "object.__setattr__" "object" "__setattr__" (.ref x) [.str name tn, v] [] _ SF.kind SF.split io (SF.args (.ref x) (.str name tn) v) ?_)
  have lm : W.Looks (model prog w) hp (mroOf (.ref C)) cd.mro := (W.looks_clsIn X hcd).andThen .now
  have lt : W.Looks (model prog w) hp (storeTaker? none) none := .now
  have lc : W.Looks (model prog w) hp (classData C) cd := W.looks_clsIn X hcd
  rw [W.osa_eq, refuse_eq]
  refine wpAny_bind (wpAny_bind (I.type.at (wpAny_bind (lm.at ?_))))
  rw [r.ps]
  refine wpAny_pure (wpAny_bind (I.type.at (wpAny_bind ((W.looks_findIn X ha).at (wpAny_bind (lt.at ?_))))))
  show wpAny _ _ (storeInOwnDict (.ref x) (.ref C) (.str name tn) name v false) _ _ _
  obtain ⟨_, _, _, _, _, hd', _, _, _, _, _⟩ := cd
  obtain rfl : hd' = true := hh
  unfold storeInOwnDict ownDictForStores
  repeat (first
    | with_reducible refine store_in_new ?_ ?_
    | with_reducible refine wpAny_loadPart_at hx ?_
    | with_reducible refine lc.at ?_
    | wp_step)
  · exact ⟨_, #[], _, (Heap.get?_update_ne _ _ _ _ nx.symm).trans (Heap.get?_push_at rfl rfl), rfl, fun e he => absurd he (by simp), fun _ => rfl⟩
  · intro h' tk' hn hs
    have hx2 : (hp.push { cls := .type "dict", data := .dict #[] }).get? x = some { cls := .ref C, data := .fields fv } := Heap.get?_push_of_some _ hx
    refine z h' tk' hp.objs.size (fun b o nb ho => ?_) (Nat.le_refl _) nx.symm ?_ hn
    · rw [hs.2 b (Nat.ne_of_lt (Heap.lt_size ho)), Heap.get?_update_ne _ _ _ _ nb]
      exact Heap.get?_push_of_some _ ho
    · rw [hs.2 x nx]
      exact Heap.get?_update_self _ hx2 rfl
end
end ExM
end PySem
set_option Elab.async false
set_option linter.all false
set_option maxRecDepth 100000
set_option maxHeartbeats 2000000
/-! exceptions of the program over KeyError or LookupError with one field, name -/
namespace PySem
namespace ExN
open PySem.W PySem.Calls PyProof.Rows PySem.HandSPX
/-! ### the text of __init__ -/
def iA (p1 p2 : Pos) : Arguments := { posonlyargs := [], args := [{ arg := "self", annotation := none, pos := p1 }, { arg := "name", annotation := none, pos := p2 }], vararg := none, kwonlyargs := [], kw_defaults := [], kwarg := none, defaults := [] }
def iB (q1 q2 q3 q4 : Pos) : List Stmt := [.Assign [.Attribute (.Name "self" q1) "name" q2] (.Name "name" q3) q4]
def iS : Scope := { kind := .function, names := [(PySem.Str.ofString "self", .local), (PySem.Str.ofString "name", .local)], isGenerator := false, isCoroutine := false, more := [] }
/-- what the written part says of Nam, at C, and of its __init__, at fI -/
structure NamTxt (K : Frag) (mg : Str → Option Value) (cn qn : Str) (C fI : Addr) : Prop where
  gC : mg cn = some (.ref C)
  cls : ∃ nm q N bs bm sn sub ab col dd k0 k1 k2 k3 k5, K.lookup C = some (excClassObj nm q C N bs bm true sn sub ab col dd k0 k1 k2 k3 k5 "LookupError.__new__") ∧ ExM.Rear "LookupError" bm
  sa : findIn K (.ref C) "__setattr__" = some (some (.builtin "object.__setattr__"))
  ga : findIn K (.ref C) "__getattribute__" = some (some (.builtin "BaseException.__getattribute__"))
  gg : findIn K (.ref C) "__getattr__" = some none
  noN : findIn K (.ref C) "name" = some none
  iC : findIn K (.ref C) "__init__" = some (some (.ref fI))
  tC : typeIn K (.ref fI) = some (.type "function")
  kC : keepIn K (.ref C) = true
  exC : subIn K (.ref C) (.type "BaseException") = some true
  tyC : typeIn K (.ref C) = some (.type "type")
  hdC : hasDictIn K C = true
  te : exmOne K (.ref C) (.ref C) = some true
  fn : ∃ (oc : Value) (od : Option Addr) (doc pm : Value) (an : Option Addr) (cdv ct : Value) (osl : Array (Option Value)) (p1 p2 q1 q2 q3 q4 : Pos),
    K.lookup fI = some ⟨oc, od, .func (fnOf "__init__" qn (iA p1 p2) (iB q1 q2 q3 q4) iS .none .none doc pm an cdv ct), osl⟩ ∧ codeIn K cdv qn = true
theorem one_size (v : Value) : [v].length ≤ sizeLine := by
  rw [sizeLine_eq]
  exact (by decide : 1 ≤ 16777216)
theorem kept_but {K : Frag} {h h' : Heap} {x : Addr} (X : K.In h) (hx : K.lookup x = none) (k : ∀ b o, b ≠ x → h.get? b = some o → h'.get? b = some o) : K.In h' := fun a o e =>
  k a o (fun z => by rw [z, hx] at e; cases e) (X a o e)
theorem ldC {M : Model} {s : Shared} {name : Str} {scope : Scope} {L a : Addr} {cd : Value} {m : Str → Option Value} {x : Str} {pos : Pos} {v : Value} {Q : Value → Shared → Prop} {A : Around} {E : Value → Shared → Prop} (hn : s.heap.Ns L m) (hv : m x = some v) (h : Q v s)
    (hk : scope.kind = .function := by rfl) (hl : (envOfC name scope L a cd).kindOf x = some .local := by rfl) (hd : (x == ("__debug__" : Str)) = false := by decide) :
    wpAny M A (eval (.Name x pos) (envOfC name scope L a cd)) Q E s := wpAny_Name (wpAny_loadName_local hk hl hn hv h) hd
/-- what __init__ leaves of a fresh exception at x -/
structure InitEnd (h h' : Heap) (x C dx t1 : Addr) (v : Value) : Prop where
  keep : ∀ b o, b ≠ x → h.get? b = some o → h'.get? b = some o
  obj : h'.get? x = some { cls := .ref C, dict := some dx, data := .fields #[.ref t1, .none, .none, .none, .bool false, .none] }
  dbig : h.objs.size ≤ dx
  dne : dx ≠ x
  ns : h'.Ns1 dx (fun y => if y = "name" then some v else none)
/-- a made Nam -/
structure OwnMade (h h' : Heap) (e C d : Addr) (v : Value) : Prop where
  keep : ∀ b o, h.get? b = some o → h'.get? b = some o
  new : h.objs.size ≤ e
  obj : ∃ oe vs, h'.get? e = some oe ∧ oe.cls = .ref C ∧ oe.dict = some d ∧ oe.data = .fields vs ∧ vs[1]? = some .none
  dbig : h.objs.size ≤ d
  dne : d ≠ e
  ns : h'.Ns1 d (fun y => if y = "name" then some v else none)
section
variable {prog : Program} {w : World} {A : Around} {E : Value → Shared → Prop} {R : Result → Shared → Prop} {s : Shared} {K : Frag} {mg : Str → Option Value} {C fI : Addr} {cn qn : Str}
theorem nam_init (T : NamTxt K mg cn qn C fI) {x t0 : Addr} {v : Value} (X : K.In s.heap) (hlim : s.heap.NoLimit) (hx : s.heap.get? x = some (excO C t0)) (hnx : K.lookup x = none) (hroom : A.depth < recursionLimit)
    (hq : ∀ h' tk dx, InitEnd s.heap h' x C dx t0 v → R (.ok (.ret .none)) { s with heap := h', toks := tk }) :
    codeAny (model prog w) A (.call (.ref fI) ⟨[.ref x, v], []⟩) R s := by
  obtain ⟨oc, od, doc, pm, an, cdv, ct, osl, p1, p2, q1, q2, q3, q4, ho, hcd⟩ := T.fn
  obtain ⟨nm, q, N, bs, bm, sn, sub, ab, col, dd, k0, k1, k2, k3, k5, hC, hbm⟩ := T.cls
  have hcl : clsIn K C = some { name := nm, bases := bs, mro := .ref C :: bm, ns := N, qualname := q, hasDict := true, slotNames := sn, subclasses := sub, abstract := ab, collection := col, hasDel := false } := by unfold clsIn; rw [hC] <;> rfl
  refine Att.call_fn (binds := [("self", .ref x), ("name", v)]) X hlim ho hcd hroom (BindsTo.of_eq (by first | rfl | with_unfolding_all rfl)) (by first | rfl | decide | with_unfolding_all rfl) (fun s₁ IC => ?_) rfl rfl rfl
  obtain ⟨h₁, tk₁, rfl⟩ := IC.toInCall.same
  have k : ∀ b o, s.heap.get? b = some o → h₁.get? b = some o := IC.toInCall.keep
  have hn := IC.toInCall.ns
  have hxL : s.heap.objs.size ≠ x := Nat.ne_of_gt (Heap.lt_size hx)
  have X₁ : K.In h₁ := X.keeps k
  have hx₁ := k _ _ hx
  -- self.by = by
  show wpAny _ _ (execs _ _) _ _ _
  refine wpAny_execs_cons (plainObj_wpAny_Assign_Attribute ?_)
  refine ldC (v := v) hn (by first | rfl | with_unfolding_all rfl | kernel_rfl) (ldC (v := .ref x) hn (by first | rfl | with_unfolding_all rfl | kernel_rfl) ?_)
  refine set_plain X₁ (ox := excO C t0) (od := none) ⟨hx₁, rfl, rfl, trivial⟩ T.sa ?_
  refine ExM.osaM X₁ hx₁ hcl (show ExM.Rear "LookupError" (.ref C :: bm) from hbm.ref C) rfl T.noN (fun h₃ tk₃ dx k₃ dn dne hx₃ hn₃ => ?_)
  show wpAny _ _ (execs _ _) _ _ _
  have z : s.heap.objs.size < h₁.objs.size := hn.lt
  exact wpAny_execs_nil (hq h₃ tk₃ dx ⟨fun b o hb e => k₃ b o hb (k b o e), hx₃, Nat.le_of_lt (Nat.lt_of_lt_of_le z dn), dne, hn₃⟩)
theorem nam_made (T : NamTxt K mg cn qn C fI) {v : Value} (X : K.In s.heap) (hlim : s.heap.NoLimit) (hroom : A.depth + 1 < recursionLimit)
    (hq : ∀ h' tk e d, OwnMade s.heap h' e C d v → R (.ok (.ret (.ref e))) { s with heap := h', toks := tk }) :
    codeAny (model prog w) A (.call (.ref C) ⟨[v], []⟩) R s := by
  obtain ⟨nm, q, N, bs, bm, sn, sub, ab, col, dd, k0, k1, k2, k3, k5, hC, hbm⟩ := T.cls
  obtain ⟨hp, g, dr, tk, os⟩ := s
  have k : ∀ b o, hp.get? b = some o → ((hp.push (kdv_tup [v])).push (excO C hp.objs.size)).get? b = some o := fun b o e => Heap.get?_push_of_some _ (Heap.get?_push_of_some _ e)
  have hget : ((hp.push (kdv_tup [v])).push (excO C hp.objs.size)).get? (hp.objs.size + 1) = some (excO C hp.objs.size) := by heap_get
  have hnx : K.lookup (hp.objs.size + 1) = none := by
    cases e : K.lookup (hp.objs.size + 1) with
    | none => rfl
    | some o =>
      have z : hp.get? (hp.objs.size + 1) = some o := X _ _ e
      exact absurd (Nat.lt_of_succ_lt (Heap.lt_size z)) (Nat.lt_irrefl _)
  refine ExM.callM F.excBase_LookupError hbm (X _ _ hC) (looks_findIn X T.iC) (fun self => bind_fn X self T.tC) (one_size v) ?_
  refine nam_init (s := ⟨(hp.push (kdv_tup [v])).push (excO C hp.objs.size), g, dr, tk, os⟩) T (X.keeps k) (hlim.keeps k) hget hnx ?_ fun h' tk' dx ⟨k', hx, dn, dne, hns⟩ => ?_
  · show A.depth + 1 < recursionLimit
    exact hroom
  · have old : ∀ b o, hp.get? b = some o → h'.get? b = some o := fun b o e => k' b o (Nat.ne_of_lt (Nat.lt_succ_of_lt (Heap.lt_size e))) (k b o e)
    have z : hp.objs.size + 1 + 1 ≤ dx := by
      first
        | (simpa only [Heap.size_push] using dn)
        | exact dn
        | (have q := dn; rw [Heap.size_push, Heap.size_push] at q; exact q)
    exact ⟨rfl, hq h' tk' (hp.objs.size + 1) dx ⟨old, Nat.le_succ _, ⟨_, _, hx, rfl, rfl, rfl, rfl⟩, Nat.le_trans (Nat.le_trans (Nat.le_succ _) (Nat.le_succ _)) z, dne, hns⟩⟩
end
end ExN
end PySem
namespace L2
open PySem PySem.Spec PyProof.Rows
theorem relO_nam {v : V} {v' : Value} (r : RelV v v') (f : Str) : RelO (List.lookup f [(("name" : Str), v)]) (if f = "name" then some v' else none) := by
  by_cases hw : f = "name"
  · subst hw
    rw [if_pos rfl]
    have q : List.lookup ("name" : Str) [(("name" : Str), v)] = some v := by simp [List.lookup]
    rw [q]
    exact r
  · rw [if_neg hw]
    have qw : (f == ("name" : Str)) = false := by simpa using hw
    have q2 : List.lookup f [(("name" : Str), v)] = none := by simp [List.lookup, qw]
    rw [q2]
    trivial
section
variable {X : Cx} {C fI : Addr} {cn qn : Str}
/-- Nam(e) -/
def tMkNam (C : Addr) (ta : TA) : St → Hp → XK → Prop := fun σ H Q => ta σ H fun vs H1 => ∃ v, vs = [v] ∧ ∀ d, H1 d = none → Q (.ref C) (some d) (upd H1 d (.xd [(("name" : Str), v)]))
theorem pmk_nam {a : Expr} {ta : TA} {p pos : Pos} {k : Nat} (T : PySem.ExN.NamTxt X.K X.mg cn qn C fI) (hr : Room k X.A) (ha : PA X [a] ta) (hdb : (cn == ("__debug__" : Str)) = false := by decide) (hg : Gl X cn := by rfl)
    (he : starEach (a :: []) X.env = (false, eval a X.env) :: starEach [] X.env := by rfl) (hpl : (backTo pos (starEach [] X.env)).any (·.1) = false := by rfl) :
    PMk X (.Call (.Name cn p) [a] [] pos) (tMkNam C ta) := by
  intro pins s σ H Q I h
  refine wpAny_Call_Name_kw (ld_glob I hg T.gC ?_ hdb)
  refine PySem.W.callWith_K (h₀ := X.base) I.ok.mod.kin T.kC (thn (ha.run pos pins s σ H _ I h) fun us s1 hh => ?_) he hpl
  obtain ⟨vs, H1, I1, r1, v, ev, q1⟩ := hh
  subst ev
  refine ⟨I1.kIn, ?_⟩
  cases r1 with
  | cons rv rn =>
    rename_i v' us'
    cases rn
    show wpAny _ _ (call (.ref C) [v']) _ _ _
    have hlim := I1.nolimit
    obtain ⟨hp, g, dr, tk, os⟩ := s1
    refine wpAny_call (PySem.ExN.nam_made T I1.kIn hlim (by have := hr.dp; omega) fun h' tk' e d M => ?_)
    show MkP X pins σ Q (.ref e) ⟨h', g, dr, tk', os⟩
    obtain ⟨oe, fv, hoe, hc, hd, hdat, h1⟩ := M.obj
    have hns := M.ns
    obtain ⟨G', g1, g2⟩ := restrict h' fun b => decide (b ≠ e)
    have gk : ∀ b, b ≠ e → G'.get? b = h'.get? b := fun b hb => g1 b (decide_eq_true hb)
    have ge : G'.get? e = none := g2 e (by simp)
    have old : ∀ b o, hp.get? b = some o → G'.get? b = some o := fun b o q => (gk b (Nat.ne_of_lt (Nat.lt_of_lt_of_le (Heap.lt_size q) M.new))).trans (M.keep b o q)
    have ob : ObjOk X.prog X.w (upd H1 d (.xd [(("name" : Str), v)])) G' d (.xd [(("name" : Str), v)]) :=
      ⟨_, hns.at (fun o q => (gk d M.dne).trans q), fun f => relO_nam rv f⟩
    have J : Inv X pins σ (upd H1 d (.xd [(("name" : Str), v)])) ⟨G', g, dr, tk', os⟩ := I1.laid (t' := tk') old M.dbig ob
    refine ⟨e, oe, fv, ⟨G', g, dr, tk', os⟩, _, .ref C, some d, rfl, J, fun b o q => ?_, ge, hoe, ⟨hc, hd⟩, hdat, h1, ?_, rfl, I1.bare, raises_own T.exC T.tyC, q1 d (I1.hok.fresh M.dbig)⟩
    · by_cases hb : b = e
      · have q' : G'.get? b = some o := q
        rw [hb, ge] at q'; cases q'
      · exact (gk b hb).symm.trans q
    · rw [upd_ne (Ne.symm M.dne)]
      exact I1.hok.fresh M.new
/-- raise Nam(e) -/
def tRaiseNam (C : Addr) (W : WX) (ta : TA) : TS := fun _ σ H => tMkNam C ta σ H fun cls d H' => W cls d σ H'
theorem ps_raiseNam {a : Expr} {ta : TA} {W : WX} {p pos pos2 : Pos} {k : Nat} (hc : X.calm = true) (T : PySem.ExN.NamTxt X.K X.mg cn qn C fI) (hr : Room k X.A) (tk : Takes X W) (ha : PA X [a] ta) (hdb : (cn == ("__debug__" : Str)) = false := by decide) (hg : Gl X cn := by rfl)
    (he : starEach (a :: []) X.env = (false, eval a X.env) :: starEach [] X.env := by rfl) (hpl : (backTo pos (starEach [] X.env)).any (·.1) = false := by rfl) :
    PS X (.Raise (some (.Call (.Name cn p) [a] [] pos)) none pos2) (tRaiseNam C W ta) := ps_raise hc tk (pmk_nam T hr ha hdb hg he hpl)
/-- low.by, low the exception that the suite holds (at a; its class cls, its dict d) -/
def tByNam (C : Addr) (a : Addr) (cls : Value) (d : Option Addr) (te : TE) : TE := fun σ H Q => te σ H fun x H1 => x = .ref a ∧ cls = .ref C ∧ ∃ (dd : Addr) (v : V), d = some dd ∧ H1 dd = some (.xd [(("name" : Str), v)]) ∧ Q v H1
theorem pe_byNam {a : Addr} {oe : Obj} {cls : Value} {d : Option Addr} {pn : List (Addr × Obj)} {e : Expr} {te : TE} {pos : Pos} (T : PySem.ExN.NamTxt X.K X.mg cn qn C fI) (hz : Zc cls d oe) (hf : ∃ vs, oe.data = .fields vs) (he : PE (X.suite a ((a, oe) :: pn)) e te)
    (hb : attributeBase e "name" X.env (eval e X.env) = eval e X.env := by rfl) :
    PE (X.suite a ((a, oe) :: pn)) (.Attribute e "name" pos) (tByNam C a cls d te) := by
  refine ⟨fun pins s σ H Q I h => ?_⟩
  refine attr_of hb (thn (he.run pins s σ H _ I h) fun u s1 hh => ?_)
  obtain ⟨x, H1, I1, rx, ex, ec, dd, v, ed, ea, q⟩ := hh
  subst ex
  obtain rfl : u = Value.ref a := rx
  subst ec
  subst ed
  obtain ⟨ha, _⟩ := I1.pin (a, oe) (List.mem_append_left _ List.mem_cons_self)
  obtain ⟨vs, hd⟩ := hf
  have hx : ObjOk X.prog X.w H1 s1.heap dd (.xd [(("name" : Str), v)]) := I1.hok dd _ ea
  obtain ⟨mA, hns, hr⟩ := hx
  obtain ⟨od, ho, hl⟩ := lookIn_ns hns
  have l : List.lookup ("name" : Str) [(("name" : Str), v)] = some v := by simp [List.lookup]
  obtain ⟨u, hu, ru⟩ := RelO.some_of (v := v) (o := mA "name") (by rw [← l]; exact hr "name")
  have J : PySem.W.InstAt s1.heap a oe C (some od) := ⟨ha, hz.1, by unfold PySem.W.notCls; rw [hd] <;> rfl, by rw [hz.2]; exact ho⟩
  exact HandSPX.exc_get I1.kIn J T.ga T.gg T.exC (PySem.W.findObj_own T.hdC T.noN rfl (by rw [hl, hu])) (handed_of ru) ⟨v, H1, I1.tok _, ru, q⟩
end
end L2
set_option Elab.async false
set_option linter.all false
set_option maxRecDepth 100000
set_option maxHeartbeats 2000000
/-! exceptions of the program with one field, value -/
namespace PySem
namespace ExVc
open PySem.W PySem.Calls PyProof.Rows PySem.HandSPX
/-! ### the text of __init__ -/
def iA (p1 p2 : Pos) : Arguments := { posonlyargs := [], args := [{ arg := "self", annotation := none, pos := p1 }, { arg := "count", annotation := none, pos := p2 }], vararg := none, kwonlyargs := [], kw_defaults := [], kwarg := none, defaults := [] }
def iB (q1 q2 q3 q4 : Pos) : List Stmt := [.Assign [.Attribute (.Name "self" q1) "count" q2] (.Name "count" q3) q4]
def iS : Scope := { kind := .function, names := [(PySem.Str.ofString "self", .local), (PySem.Str.ofString "count", .local)], isGenerator := false, isCoroutine := false, more := [] }
/-- what the written part says of Cnt, at C, and of its __init__, at fI -/
structure CntTxt (K : Frag) (mg : Str → Option Value) (cn qn : Str) (C fI : Addr) : Prop where
  gC : mg cn = some (.ref C)
  cls : ∃ nm q N bs bm sn sub ab col dd k0 k1 k2 k3 k5, K.lookup C = some (excClassObj nm q C N bs bm true sn sub ab col dd k0 k1 k2 k3 k5 "ValueError.__new__") ∧ refsVE bm = true
  sa : findIn K (.ref C) "__setattr__" = some (some (.builtin "object.__setattr__"))
  ga : findIn K (.ref C) "__getattribute__" = some (some (.builtin "BaseException.__getattribute__"))
  gg : findIn K (.ref C) "__getattr__" = some none
  noN : findIn K (.ref C) "count" = some none
  iC : findIn K (.ref C) "__init__" = some (some (.ref fI))
  tC : typeIn K (.ref fI) = some (.type "function")
  kC : keepIn K (.ref C) = true
  exC : subIn K (.ref C) (.type "BaseException") = some true
  tyC : typeIn K (.ref C) = some (.type "type")
  hdC : hasDictIn K C = true
  te : exmOne K (.ref C) (.ref C) = some true
  fn : ∃ (oc : Value) (od : Option Addr) (doc pm : Value) (an : Option Addr) (cdv ct : Value) (osl : Array (Option Value)) (p1 p2 q1 q2 q3 q4 : Pos),
    K.lookup fI = some ⟨oc, od, .func (fnOf "__init__" qn (iA p1 p2) (iB q1 q2 q3 q4) iS .none .none doc pm an cdv ct), osl⟩ ∧ codeIn K cdv qn = true
theorem one_size (v : Value) : [v].length ≤ sizeLine := by
  rw [sizeLine_eq]
  exact (by decide : 1 ≤ 16777216)
theorem kept_but {K : Frag} {h h' : Heap} {x : Addr} (X : K.In h) (hx : K.lookup x = none) (k : ∀ b o, b ≠ x → h.get? b = some o → h'.get? b = some o) : K.In h' := fun a o e =>
  k a o (fun z => by rw [z, hx] at e; cases e) (X a o e)
theorem ldC {M : Model} {s : Shared} {name : Str} {scope : Scope} {L a : Addr} {cd : Value} {m : Str → Option Value} {x : Str} {pos : Pos} {v : Value} {Q : Value → Shared → Prop} {A : Around} {E : Value → Shared → Prop} (hn : s.heap.Ns L m) (hv : m x = some v) (h : Q v s)
    (hk : scope.kind = .function := by rfl) (hl : (envOfC name scope L a cd).kindOf x = some .local := by rfl) (hd : (x == ("__debug__" : Str)) = false := by decide) :
    wpAny M A (eval (.Name x pos) (envOfC name scope L a cd)) Q E s := wpAny_Name (wpAny_loadName_local hk hl hn hv h) hd
/-- what __init__ leaves of a fresh exception at x -/
structure InitEnd (h h' : Heap) (x C dx t1 : Addr) (v : Value) : Prop where
  keep : ∀ b o, b ≠ x → h.get? b = some o → h'.get? b = some o
  obj : h'.get? x = some { cls := .ref C, dict := some dx, data := .fields #[.ref t1, .none, .none, .none, .bool false, .none] }
  dbig : h.objs.size ≤ dx
  dne : dx ≠ x
  ns : h'.Ns1 dx (fun y => if y = "count" then some v else none)
/-- a made Cnt -/
structure OwnMade (h h' : Heap) (e C d : Addr) (v : Value) : Prop where
  keep : ∀ b o, h.get? b = some o → h'.get? b = some o
  new : h.objs.size ≤ e
  obj : ∃ oe vs, h'.get? e = some oe ∧ oe.cls = .ref C ∧ oe.dict = some d ∧ oe.data = .fields vs ∧ vs[1]? = some .none
  dbig : h.objs.size ≤ d
  dne : d ≠ e
  ns : h'.Ns1 d (fun y => if y = "count" then some v else none)
section
variable {prog : Program} {w : World} {A : Around} {E : Value → Shared → Prop} {R : Result → Shared → Prop} {s : Shared} {K : Frag} {mg : Str → Option Value} {C fI : Addr} {cn qn : Str}
theorem cnt_init (T : CntTxt K mg cn qn C fI) {x t0 : Addr} {v : Value} (X : K.In s.heap) (hlim : s.heap.NoLimit) (hx : s.heap.get? x = some (excO C t0)) (hnx : K.lookup x = none) (hroom : A.depth < recursionLimit)
    (hq : ∀ h' tk dx, InitEnd s.heap h' x C dx t0 v → R (.ok (.ret .none)) { s with heap := h', toks := tk }) :
    codeAny (model prog w) A (.call (.ref fI) ⟨[.ref x, v], []⟩) R s := by
  obtain ⟨oc, od, doc, pm, an, cdv, ct, osl, p1, p2, q1, q2, q3, q4, ho, hcd⟩ := T.fn
  obtain ⟨nm, q, N, bs, bm, sn, sub, ab, col, dd, k0, k1, k2, k3, k5, hC, hbm⟩ := T.cls
  have hcl : clsIn K C = some { name := nm, bases := bs, mro := .ref C :: bm, ns := N, qualname := q, hasDict := true, slotNames := sn, subclasses := sub, abstract := ab, collection := col, hasDel := false } := by unfold clsIn; rw [hC] <;> rfl
  refine Att.call_fn (binds := [("self", .ref x), ("count", v)]) X hlim ho hcd hroom (BindsTo.of_eq (by first | rfl | with_unfolding_all rfl)) (by first | rfl | decide | with_unfolding_all rfl) (fun s₁ IC => ?_) rfl rfl rfl
  obtain ⟨h₁, tk₁, rfl⟩ := IC.toInCall.same
  have k : ∀ b o, s.heap.get? b = some o → h₁.get? b = some o := IC.toInCall.keep
  have hn := IC.toInCall.ns
  have hxL : s.heap.objs.size ≠ x := Nat.ne_of_gt (Heap.lt_size hx)
  have X₁ : K.In h₁ := X.keeps k
  have hx₁ := k _ _ hx
  -- self.by = by
  show wpAny _ _ (execs _ _) _ _ _
  refine wpAny_execs_cons (plainObj_wpAny_Assign_Attribute ?_)
  refine ldC (v := v) hn (by first | rfl | with_unfolding_all rfl | kernel_rfl) (ldC (v := .ref x) hn (by first | rfl | with_unfolding_all rfl | kernel_rfl) ?_)
  refine set_plain X₁ (ox := excO C t0) (od := none) ⟨hx₁, rfl, rfl, trivial⟩ T.sa ?_
  refine exc_osa X₁ hx₁ hcl (show refsVE (.ref C :: bm) = true from hbm) rfl T.noN (fun h₃ tk₃ dx k₃ dn dne hx₃ hn₃ => ?_)
  show wpAny _ _ (execs _ _) _ _ _
  have z : s.heap.objs.size < h₁.objs.size := hn.lt
  exact wpAny_execs_nil (hq h₃ tk₃ dx ⟨fun b o hb e => k₃ b o hb (k b o e), hx₃, Nat.le_of_lt (Nat.lt_of_lt_of_le z dn), dne, hn₃⟩)
theorem cnt_made (T : CntTxt K mg cn qn C fI) {v : Value} (X : K.In s.heap) (hlim : s.heap.NoLimit) (hroom : A.depth + 1 < recursionLimit)
    (hq : ∀ h' tk e d, OwnMade s.heap h' e C d v → R (.ok (.ret (.ref e))) { s with heap := h', toks := tk }) :
    codeAny (model prog w) A (.call (.ref C) ⟨[v], []⟩) R s := by
  obtain ⟨nm, q, N, bs, bm, sn, sub, ab, col, dd, k0, k1, k2, k3, k5, hC, hbm⟩ := T.cls
  obtain ⟨hp, g, dr, tk, os⟩ := s
  have k : ∀ b o, hp.get? b = some o → ((hp.push (kdv_tup [v])).push (excO C hp.objs.size)).get? b = some o := fun b o e => Heap.get?_push_of_some _ (Heap.get?_push_of_some _ e)
  have hget : ((hp.push (kdv_tup [v])).push (excO C hp.objs.size)).get? (hp.objs.size + 1) = some (excO C hp.objs.size) := by heap_get
  have hnx : K.lookup (hp.objs.size + 1) = none := by
    cases e : K.lookup (hp.objs.size + 1) with
    | none => rfl
    | some o =>
      have z : hp.get? (hp.objs.size + 1) = some o := X _ _ e
      exact absurd (Nat.lt_of_succ_lt (Heap.lt_size z)) (Nat.lt_irrefl _)
  refine call_own F.excBase_ValueError (fun X => refsVE_contains X bm hbm) (X _ _ hC) (looks_findIn X T.iC) (fun self => bind_fn X self T.tC) (one_size v) ?_
  refine cnt_init (s := ⟨(hp.push (kdv_tup [v])).push (excO C hp.objs.size), g, dr, tk, os⟩) T (X.keeps k) (hlim.keeps k) hget hnx ?_ fun h' tk' dx ⟨k', hx, dn, dne, hns⟩ => ?_
  · show A.depth + 1 < recursionLimit
    exact hroom
  · have old : ∀ b o, hp.get? b = some o → h'.get? b = some o := fun b o e => k' b o (Nat.ne_of_lt (Nat.lt_succ_of_lt (Heap.lt_size e))) (k b o e)
    have z : hp.objs.size + 1 + 1 ≤ dx := by
      first
        | (simpa only [Heap.size_push] using dn)
        | exact dn
        | (have q := dn; rw [Heap.size_push, Heap.size_push] at q; exact q)
    exact ⟨rfl, hq h' tk' (hp.objs.size + 1) dx ⟨old, Nat.le_succ _, ⟨_, _, hx, rfl, rfl, rfl, rfl⟩, Nat.le_trans (Nat.le_trans (Nat.le_succ _) (Nat.le_succ _)) z, dne, hns⟩⟩
end
end ExVc
end PySem
namespace L2
open PySem PySem.Spec PyProof.Rows
theorem relO_cnt {v : V} {v' : Value} (r : RelV v v') (f : Str) : RelO (List.lookup f [(("count" : Str), v)]) (if f = "count" then some v' else none) := by
  by_cases hw : f = "count"
  · subst hw
    rw [if_pos rfl]
    have q : List.lookup ("count" : Str) [(("count" : Str), v)] = some v := by simp [List.lookup]
    rw [q]
    exact r
  · rw [if_neg hw]
    have qw : (f == ("count" : Str)) = false := by simpa using hw
    have q2 : List.lookup f [(("count" : Str), v)] = none := by simp [List.lookup, qw]
    rw [q2]
    trivial
section
variable {X : Cx} {C fI : Addr} {cn qn : Str}
/-- Cnt(e) -/
def tMkCnt (C : Addr) (ta : TA) : St → Hp → XK → Prop := fun σ H Q => ta σ H fun vs H1 => ∃ v, vs = [v] ∧ ∀ d, H1 d = none → Q (.ref C) (some d) (upd H1 d (.xd [(("count" : Str), v)]))
theorem pmk_cnt {a : Expr} {ta : TA} {p pos : Pos} {k : Nat} (T : PySem.ExVc.CntTxt X.K X.mg cn qn C fI) (hr : Room k X.A) (ha : PA X [a] ta) (hdb : (cn == ("__debug__" : Str)) = false := by decide) (hg : Gl X cn := by rfl)
    (he : starEach (a :: []) X.env = (false, eval a X.env) :: starEach [] X.env := by rfl) (hpl : (backTo pos (starEach [] X.env)).any (·.1) = false := by rfl) :
    PMk X (.Call (.Name cn p) [a] [] pos) (tMkCnt C ta) := by
  intro pins s σ H Q I h
  refine wpAny_Call_Name_kw (ld_glob I hg T.gC ?_ hdb)
  refine PySem.W.callWith_K (h₀ := X.base) I.ok.mod.kin T.kC (thn (ha.run pos pins s σ H _ I h) fun us s1 hh => ?_) he hpl
  obtain ⟨vs, H1, I1, r1, v, ev, q1⟩ := hh
  subst ev
  refine ⟨I1.kIn, ?_⟩
  cases r1 with
  | cons rv rn =>
    rename_i v' us'
    cases rn
    show wpAny _ _ (call (.ref C) [v']) _ _ _
    have hlim := I1.nolimit
    obtain ⟨hp, g, dr, tk, os⟩ := s1
    refine wpAny_call (PySem.ExVc.cnt_made T I1.kIn hlim (by have := hr.dp; omega) fun h' tk' e d M => ?_)
    show MkP X pins σ Q (.ref e) ⟨h', g, dr, tk', os⟩
    obtain ⟨oe, fv, hoe, hc, hd, hdat, h1⟩ := M.obj
    have hns := M.ns
    obtain ⟨G', g1, g2⟩ := restrict h' fun b => decide (b ≠ e)
    have gk : ∀ b, b ≠ e → G'.get? b = h'.get? b := fun b hb => g1 b (decide_eq_true hb)
    have ge : G'.get? e = none := g2 e (by simp)
    have old : ∀ b o, hp.get? b = some o → G'.get? b = some o := fun b o q => (gk b (Nat.ne_of_lt (Nat.lt_of_lt_of_le (Heap.lt_size q) M.new))).trans (M.keep b o q)
    have ob : ObjOk X.prog X.w (upd H1 d (.xd [(("count" : Str), v)])) G' d (.xd [(("count" : Str), v)]) :=
      ⟨_, hns.at (fun o q => (gk d M.dne).trans q), fun f => relO_cnt rv f⟩
    have J : Inv X pins σ (upd H1 d (.xd [(("count" : Str), v)])) ⟨G', g, dr, tk', os⟩ := I1.laid (t' := tk') old M.dbig ob
    refine ⟨e, oe, fv, ⟨G', g, dr, tk', os⟩, _, .ref C, some d, rfl, J, fun b o q => ?_, ge, hoe, ⟨hc, hd⟩, hdat, h1, ?_, rfl, I1.bare, raises_own T.exC T.tyC, q1 d (I1.hok.fresh M.dbig)⟩
    · by_cases hb : b = e
      · have q' : G'.get? b = some o := q
        rw [hb, ge] at q'; cases q'
      · exact (gk b hb).symm.trans q
    · rw [upd_ne (Ne.symm M.dne)]
      exact I1.hok.fresh M.new
/-- raise Cnt(e) -/
def tRaiseCnt (C : Addr) (W : WX) (ta : TA) : TS := fun _ σ H => tMkCnt C ta σ H fun cls d H' => W cls d σ H'
theorem ps_raiseCnt {a : Expr} {ta : TA} {W : WX} {p pos pos2 : Pos} {k : Nat} (hc : X.calm = true) (T : PySem.ExVc.CntTxt X.K X.mg cn qn C fI) (hr : Room k X.A) (tk : Takes X W) (ha : PA X [a] ta) (hdb : (cn == ("__debug__" : Str)) = false := by decide) (hg : Gl X cn := by rfl)
    (he : starEach (a :: []) X.env = (false, eval a X.env) :: starEach [] X.env := by rfl) (hpl : (backTo pos (starEach [] X.env)).any (·.1) = false := by rfl) :
    PS X (.Raise (some (.Call (.Name cn p) [a] [] pos)) none pos2) (tRaiseCnt C W ta) := ps_raise hc tk (pmk_cnt T hr ha hdb hg he hpl)
/-- low.by, low the exception that the suite holds (at a; its class cls, its dict d) -/
def tByCnt (C : Addr) (a : Addr) (cls : Value) (d : Option Addr) (te : TE) : TE := fun σ H Q => te σ H fun x H1 => x = .ref a ∧ cls = .ref C ∧ ∃ (dd : Addr) (v : V), d = some dd ∧ H1 dd = some (.xd [(("count" : Str), v)]) ∧ Q v H1
theorem pe_byCnt {a : Addr} {oe : Obj} {cls : Value} {d : Option Addr} {pn : List (Addr × Obj)} {e : Expr} {te : TE} {pos : Pos} (T : PySem.ExVc.CntTxt X.K X.mg cn qn C fI) (hz : Zc cls d oe) (hf : ∃ vs, oe.data = .fields vs) (he : PE (X.suite a ((a, oe) :: pn)) e te)
    (hb : attributeBase e "count" X.env (eval e X.env) = eval e X.env := by rfl) :
    PE (X.suite a ((a, oe) :: pn)) (.Attribute e "count" pos) (tByCnt C a cls d te) := by
  refine ⟨fun pins s σ H Q I h => ?_⟩
  refine attr_of hb (thn (he.run pins s σ H _ I h) fun u s1 hh => ?_)
  obtain ⟨x, H1, I1, rx, ex, ec, dd, v, ed, ea, q⟩ := hh
  subst ex
  obtain rfl : u = Value.ref a := rx
  subst ec
  subst ed
  obtain ⟨ha, _⟩ := I1.pin (a, oe) (List.mem_append_left _ List.mem_cons_self)
  obtain ⟨vs, hd⟩ := hf
  have hx : ObjOk X.prog X.w H1 s1.heap dd (.xd [(("count" : Str), v)]) := I1.hok dd _ ea
  obtain ⟨mA, hns, hr⟩ := hx
  obtain ⟨od, ho, hl⟩ := lookIn_ns hns
  have l : List.lookup ("count" : Str) [(("count" : Str), v)] = some v := by simp [List.lookup]
  obtain ⟨u, hu, ru⟩ := RelO.some_of (v := v) (o := mA "count") (by rw [← l]; exact hr "count")
  have J : PySem.W.InstAt s1.heap a oe C (some od) := ⟨ha, hz.1, by unfold PySem.W.notCls; rw [hd] <;> rfl, by rw [hz.2]; exact ho⟩
  exact HandSPX.exc_get I1.kIn J T.ga T.gg T.exC (PySem.W.findObj_own T.hdC T.noN rfl (by rw [hl, hu])) (handed_of ru) ⟨v, H1, I1.tok _, ru, q⟩
end
end L2
set_option Elab.async false
set_option linter.all false
set_option maxRecDepth 100000
set_option maxHeartbeats 4000000
/-! == and != of lists and tuples that hold things with an == of their own: the answer is told -/
namespace FR
open PySem PySem.SeqAt
open AutoSeq1 (wpAny_loadPart')
open MeetsSeq MeetsSeq2 MeetsSeq3 SeqRoads2
section
variable {prog : Program} {w : World} {A : Around} {R : Result → Shared → Prop}
/-- at each turn the two lists are read anew: N items each; the i-th two are asked and answer e i -/
def ListB (prog : Program) (w : World) (A : Around) (E : Value → Shared → Prop) (l b : Addr) (N : Nat) (e : Nat → Bool) (I : Nat → Shared → Prop) : Prop :=
  ∀ i s, I i s → ∃ (items items2 : Array Value) (n n2 : Nat), s.heap.get? l = some { cls := .type "list", data := .seq items n } ∧ s.heap.get? b = some { cls := .type "list", data := .seq items2 n2 } ∧ items.size = N ∧ items2.size = N ∧
    ∀ (h1 : i < items.size) (h2 : i < items2.size), wpAny (model prog w) A.in1 (eqBool items[i] items2[i]) (fun r s' => r = e i ∧ I (i + 1) s') E s
theorem eq_loopB {e : Nat → Bool} {r : Bool} (l b : Addr) (N : Nat) (I : Nat → Shared → Prop) (hl : ListB prog w A (fun e s' => R (.error e) s') l b N e I) (hr : r = true ↔ ∀ j, j < N → e j = true)
    (fin : ∀ i s, I i s → R (.ok (.ret (.bool r))) s) (k : Nat) :
    ∀ i : Nat, N - i = k → i ≤ N → (∀ j, j < i → e j = true) → ∀ s, I i s →
      wpAny (model prog w) A.in1 (Builtin.«list.__eq__.loop» ⟨[.ref l, .ref b, rawInt i, rawInt 2], []⟩) (GQ.FinOf prog w A R) (fun e s' => R (.error e) s') s := by
  induction k with
  | zero =>
    intro i hk hi pre s h
    obtain ⟨items, items2, n, n2, hl1, hb1, hs1, hs2, _⟩ := hl _ _ h
    have hi' : i = N := by omega
    have er : r = true := hr.mpr fun j hj => pre j (by omega)
    have hR : R (.ok (.ret (.bool true))) s := er ▸ fin i s h
    obtain ⟨hp, g, d, tk, os⟩ := s
    wp_walk using wpAny_loadPart' hl1, wpAny_loadPart' hb1
    have hi1 : items[((i : Nat) : Int).toNat]? = none := by simp; omega
    have hi2 : items2[((i : Nat) : Int).toNat]? = none := by simp; omega
    rw [hi1, hi2]
    wp_walk using wpAny_loadPart' hl1, wpAny_loadPart' hb1
    show R (.ok (.ret (.bool (items.size == items2.size)))) _
    rw [hs1, hs2]
    simpa using hR
  | succ k ih =>
    intro i hk hi pre s h
    obtain ⟨items, items2, n, n2, hl1, hb1, hs1, hs2, turn⟩ := hl _ _ h
    have hlt : i < items.size := by omega
    have hlt2 : i < items2.size := by omega
    have ht := turn hlt hlt2
    obtain ⟨hp, g, d, tk, os⟩ := s
    wp_walk using wpAny_loadPart' hl1, wpAny_loadPart' hb1
    have hi1 : items[((i : Nat) : Int).toNat]? = some items[i] := by simp [hlt]
    have hi2 : items2[((i : Nat) : Int).toNat]? = some items2[i] := by simp [hlt2]
    have hc : ((i : Int) + 1) = ((i + 1 : Nat) : Int) := by omega
    rw [hi1, hi2]
    refine wpAny_bind (wpAny_mono ht (fun r' s2 h2 => ?_) fun _ _ x => x)
    obtain ⟨hr', h2⟩ := h2
    subst hr'
    obtain ⟨it3, it4, n3, n4, hl3, hb3, hs3, hs4, _⟩ := hl _ _ h2
    have fin2 := fin _ _ h2
    cases hy : e i with
    | true =>
      have hrec := ih (i + 1) (by omega) (by omega) (fun j hj => by rcases Nat.lt_succ_iff_lt_or_eq.mp hj with q | q; · exact pre j q
                                                                    · exact q ▸ hy) s2 h2
      obtain ⟨hp2, g2, d2, tk2, os2⟩ := s2
      wp_walk
      rw [hc]
      exact ⟨plainId_quiet plain_eq_loop _, codeAny_builtin entry_eq_loop (by
        rw [Around.under_plainId plain_eq_loop _]
        exact hrec)⟩
    | false =>
      have er : r = false := by
        cases r with
        | false => rfl
        | true => exact absurd (hr.mp rfl i (by omega)) (by rw [hy]; exact Bool.false_ne_true)
      rw [er] at fin2
      have hi3 : it3[((i : Nat) : Int).toNat]? = some (it3[i]'(by omega)) := by simp [show i < it3.size by omega]
      have hi4 : it4[((i : Nat) : Int).toNat]? = some (it4[i]'(by omega)) := by simp [show i < it4.size by omega]
      obtain ⟨hp2, g2, d2, tk2, os2⟩ := s2
      wp_walk using wpAny_loadPart' hl3, wpAny_loadPart' hb3
      rw [hi3, hi4]
      wp_walk
      exact fin2
theorem list_eqB {e : Nat → Bool} {r : Bool} (l b : Addr) (N : Nat) (I : Nat → Shared → Prop) (hl : ListB prog w A (fun e s' => R (.error e) s') l b N e I) (hr : r = true ↔ ∀ j, j < N → e j = true)
    (fin : ∀ i s, I i s → R (.ok (.ret (.bool r))) s) {s : Shared} (h : I 0 s) :
    wpAny (model prog w) A.in1 (Builtin.«list.__eq__» ⟨[.ref l, .ref b], []⟩) (GQ.FinOf prog w A R) (fun e s' => R (.error e) s') s := by
  obtain ⟨items, items2, n, n2, hl1, hb1, hs1, hs2, _⟩ := hl _ _ h
  have hrec := eq_loopB (A := A) (R := R) l b N I hl hr fin _ 0 rfl (Nat.zero_le _) (fun j hj => absurd hj (Nat.not_lt_zero _)) s h
  obtain ⟨hp, g, d, tk, os⟩ := s
  have f3 := AutoSeq1.sub_list_list
  have hne : ¬ (items.size != items2.size) = true := by simp [hs1, hs2]
  wp_walk using wpAny_loadPart' hl1, wpAny_loadPart' hb1
  exact ⟨plainId_quiet plain_eq_loop _, codeAny_builtin entry_eq_loop (by
    rw [Around.under_plainId plain_eq_loop _]
    exact hrec)⟩
theorem ne_loopB {e : Nat → Bool} {r : Bool} (l b : Addr) (N : Nat) (I : Nat → Shared → Prop) (hl : ListB prog w A (fun e s' => R (.error e) s') l b N e I) (hr : r = true ↔ ∀ j, j < N → e j = true)
    (fin : ∀ i s, I i s → R (.ok (.ret (.bool (!r)))) s) (k : Nat) :
    ∀ i : Nat, N - i = k → i ≤ N → (∀ j, j < i → e j = true) → ∀ s, I i s →
      wpAny (model prog w) A.in1 (Builtin.«list.__eq__.loop» ⟨[.ref l, .ref b, rawInt i, rawInt 3], []⟩) (GQ.FinOf prog w A R) (fun e s' => R (.error e) s') s := by
  induction k with
  | zero =>
    intro i hk hi pre s h
    obtain ⟨items, items2, n, n2, hl1, hb1, hs1, hs2, _⟩ := hl _ _ h
    have hi' : i = N := by omega
    have er : r = true := hr.mpr fun j hj => pre j (by omega)
    have hR : R (.ok (.ret (.bool (!true)))) s := er ▸ fin i s h
    obtain ⟨hp, g, d, tk, os⟩ := s
    wp_walk using wpAny_loadPart' hl1, wpAny_loadPart' hb1
    have hi1 : items[((i : Nat) : Int).toNat]? = none := by simp; omega
    have hi2 : items2[((i : Nat) : Int).toNat]? = none := by simp; omega
    rw [hi1, hi2]
    wp_walk using wpAny_loadPart' hl1, wpAny_loadPart' hb1
    show R (.ok (.ret (.bool (items.size != items2.size)))) _
    rw [hs1, hs2]
    simpa using hR
  | succ k ih =>
    intro i hk hi pre s h
    obtain ⟨items, items2, n, n2, hl1, hb1, hs1, hs2, turn⟩ := hl _ _ h
    have hlt : i < items.size := by omega
    have hlt2 : i < items2.size := by omega
    have ht := turn hlt hlt2
    obtain ⟨hp, g, d, tk, os⟩ := s
    wp_walk using wpAny_loadPart' hl1, wpAny_loadPart' hb1
    have hi1 : items[((i : Nat) : Int).toNat]? = some items[i] := by simp [hlt]
    have hi2 : items2[((i : Nat) : Int).toNat]? = some items2[i] := by simp [hlt2]
    have hc : ((i : Int) + 1) = ((i + 1 : Nat) : Int) := by omega
    rw [hi1, hi2]
    refine wpAny_bind (wpAny_mono ht (fun r' s2 h2 => ?_) fun _ _ x => x)
    obtain ⟨hr', h2⟩ := h2
    subst hr'
    obtain ⟨it3, it4, n3, n4, hl3, hb3, hs3, hs4, _⟩ := hl _ _ h2
    have fin2 := fin _ _ h2
    cases hy : e i with
    | true =>
      have hrec := ih (i + 1) (by omega) (by omega) (fun j hj => by rcases Nat.lt_succ_iff_lt_or_eq.mp hj with q | q; · exact pre j q
                                                                    · exact q ▸ hy) s2 h2
      obtain ⟨hp2, g2, d2, tk2, os2⟩ := s2
      wp_walk
      rw [hc]
      exact ⟨plainId_quiet plain_eq_loop _, codeAny_builtin entry_eq_loop (by
        rw [Around.under_plainId plain_eq_loop _]
        exact hrec)⟩
    | false =>
      have er : r = false := by
        cases r with
        | false => rfl
        | true => exact absurd (hr.mp rfl i (by omega)) (by rw [hy]; exact Bool.false_ne_true)
      rw [er] at fin2
      have hi3 : it3[((i : Nat) : Int).toNat]? = some (it3[i]'(by omega)) := by simp [show i < it3.size by omega]
      have hi4 : it4[((i : Nat) : Int).toNat]? = some (it4[i]'(by omega)) := by simp [show i < it4.size by omega]
      obtain ⟨hp2, g2, d2, tk2, os2⟩ := s2
      wp_walk using wpAny_loadPart' hl3, wpAny_loadPart' hb3
      rw [hi3, hi4]
      wp_walk
      exact fin2
theorem list_neB {e : Nat → Bool} {r : Bool} (l b : Addr) (N : Nat) (I : Nat → Shared → Prop) (hl : ListB prog w A (fun e s' => R (.error e) s') l b N e I) (hr : r = true ↔ ∀ j, j < N → e j = true)
    (fin : ∀ i s, I i s → R (.ok (.ret (.bool (!r)))) s) {s : Shared} (h : I 0 s) :
    wpAny (model prog w) A.in1 (Builtin.«list.__ne__» ⟨[.ref l, .ref b], []⟩) (GQ.FinOf prog w A R) (fun e s' => R (.error e) s') s := by
  obtain ⟨items, items2, n, n2, hl1, hb1, hs1, hs2, _⟩ := hl _ _ h
  have hrec := ne_loopB (A := A) (R := R) l b N I hl hr fin _ 0 rfl (Nat.zero_le _) (fun j hj => absurd hj (Nat.not_lt_zero _)) s h
  obtain ⟨hp, g, d, tk, os⟩ := s
  have f3 := AutoSeq1.sub_list_list
  have hne : ¬ (items.size != items2.size) = true := by simp [hs1, hs2]
  wp_walk using wpAny_loadPart' hl1, wpAny_loadPart' hb1
  exact ⟨plainId_quiet plain_eq_loop _, codeAny_builtin entry_eq_loop (by
    rw [Around.under_plainId plain_eq_loop _]
    exact hrec)⟩
theorem tuple_eqB {e : Nat → Bool} {r : Bool} (l b : Addr) (items items2 : Array Value) (n n2 : Nat) (dd dd2 : Option Addr) (sl sl2 : Array (Option Value)) (hsz : items.size = items2.size) (I : Nat → Shared → Prop)
    (turn : ∀ i (h1 : i < items.size) (h2 : i < items2.size) s, I i s → wpAny (model prog w) A.in1 (eqBool items[i] items2[i]) (fun r s' => r = e i ∧ I (i + 1) s') (fun e s' => R (.error e) s') s) (hr : r = true ↔ ∀ j, j < items.size → e j = true)
    (fin : ∀ i s, I i s → R (.ok (.ret (.bool r))) s) {s : Shared} (hl1 : s.heap.get? l = some { cls := .type "tuple", dict := dd, data := .seq items n, slots := sl }) (hb1 : s.heap.get? b = some { cls := .type "tuple", dict := dd2, data := .seq items2 n2, slots := sl2 }) (h : I 0 s) :
    wpAny (model prog w) A.in1 (Builtin.«tuple.__eq__» ⟨[.ref l, .ref b], []⟩) (GQ.FinOf prog w A R) (fun e s' => R (.error e) s') s := by
  have f2 := AutoSeq1.sub_tuple_tuple
  have hZ : (items.toList.zip items2.toList).length = items.size := by simp [hsz]
  have h0 := h
  obtain ⟨hp, g, d, tk, os⟩ := s
  wp_walk using wpAny_loadPart' hl1, wpAny_loadPart' hb1, wpAny_forIn_list _ (fun rest b s' => b.1 = none ∧ ∃ i, rest = (items.toList.zip items2.toList).drop i ∧ i ≤ items.size ∧ (∀ j, j < i → e j = true) ∧ I i s') _
  case turn =>
    rintro ⟨y, x⟩ rest b s' ⟨hb', i, hz, hi, pre, hI⟩
    have hlt : i < (items.toList.zip items2.toList).length := by
      rcases Nat.lt_or_ge i (items.toList.zip items2.toList).length with h' | h'
      · exact h'
      · rw [List.drop_of_length_le h'] at hz; cases hz
    have h1 : i < items.size := hZ ▸ hlt
    have h2 : i < items2.size := hsz ▸ h1
    rw [List.drop_eq_getElem_cons hlt] at hz
    injection hz with hyx hrest
    have hy : y = items[i] := by have := congrArg Prod.fst hyx; simpa using this
    have hx : x = items2[i] := by have := congrArg Prod.snd hyx; simpa using this
    subst hy hx
    refine wpAny_bind (wpAny_mono (turn i h1 h2 s' hI) (fun r' s2 q2 => ?_) fun _ _ x => x)
    obtain ⟨hr', q2⟩ := q2
    subst hr'
    have fin2 := fin _ _ q2
    cases hy : e i with
    | true =>
      wp_walk
      exact ⟨rfl, i + 1, hrest, h1, fun j hj => by
        rcases Nat.lt_succ_iff_lt_or_eq.mp hj with q | q
        · exact pre j q
        · exact q ▸ hy, q2⟩
    | false =>
      have er : r = false := by
        cases r with
        | false => rfl
        | true => exact absurd (hr.mp rfl i h1) (by rw [hy]; exact Bool.false_ne_true)
      rw [er] at fin2
      wp_walk
      exact fin2
  case fin =>
    rintro ⟨b1, b2⟩ s' ⟨hb', i, hz, hi, pre, hI⟩
    simp only at hb'
    subst hb'
    have hge : items.size ≤ i := by
      rcases Nat.lt_or_ge i (items.toList.zip items2.toList).length with h' | h'
      · rw [List.drop_eq_getElem_cons h'] at hz; cases hz
      · exact hZ ▸ h'
    have er : r = true := hr.mpr fun j hj => pre j (by omega)
    have hR : R (.ok (.ret (.bool true))) s' := er ▸ fin _ s' hI
    wp_walk
    simpa [Builtin.Tuple.tupleCompareSizes, hsz] using hR
  case h =>
    exact ⟨rfl, 0, rfl, Nat.zero_le _, fun j hj => absurd hj (Nat.not_lt_zero _), h0⟩
end
section
variable {prog : Program} {w : World} {A : Around} {E : Value → Shared → Prop} {s : Shared}
theorem rc_listB {l b : Addr} {N : Nat} {e : Nat → Bool} {r : Bool} {Q : Value → Shared → Prop} (hu : A.units < cLine) (I : Nat → Shared → Prop) (hl : ListB prog w A E l b N e I) (hr : r = true ↔ ∀ j, j < N → e j = true)
    (fin : ∀ i s, I i s → Q (.bool r) s) (h : I 0 s) : wpAny (model prog w) A (richCompare .Eq (.ref l) (.ref b)) Q E s := by
  obtain ⟨items, items2, n, n2, hl1, hb1, _, _, _⟩ := hl _ _ h
  refine wpAny_richCompare_same_room (op := .Eq) ⟨_, hl1, rfl⟩ ⟨_, hb1, rfl⟩ F.slot_list_eq (GQ.call_here F.slot_list_eq ⟨_, hl1, rfl⟩ F.entry_list_eq (F.args_list_eq_2 _ _) ?_) hu
  exact list_eqB (R := wants (fun v s' => v ≠ .notImplemented ∧ Q v s') E) l b N I hl hr (fun i s' q => ⟨(fun x => nomatch x), fin i s' q⟩) h
theorem rc_listNB {l b : Addr} {N : Nat} {e : Nat → Bool} {r : Bool} {Q : Value → Shared → Prop} (hu : A.units < cLine) (I : Nat → Shared → Prop) (hl : ListB prog w A E l b N e I) (hr : r = true ↔ ∀ j, j < N → e j = true)
    (fin : ∀ i s, I i s → Q (.bool (!r)) s) (h : I 0 s) : wpAny (model prog w) A (richCompare .NotEq (.ref l) (.ref b)) Q E s := by
  obtain ⟨items, items2, n, n2, hl1, hb1, _, _, _⟩ := hl _ _ h
  refine wpAny_richCompare_same_room (op := .NotEq) ⟨_, hl1, rfl⟩ ⟨_, hb1, rfl⟩ F.slot_list_ne (GQ.call_here F.slot_list_ne ⟨_, hl1, rfl⟩ F.entry_list_ne (F.args_list_ne_2 _ _) ?_) hu
  exact list_neB (R := wants (fun v s' => v ≠ .notImplemented ∧ Q v s') E) l b N I hl hr (fun i s' q => ⟨(fun x => nomatch x), fin i s' q⟩) h
theorem rc_tupB {l b : Addr} {items items2 : Array Value} {e : Nat → Bool} {r : Bool} {Q : Value → Shared → Prop} (hsz : items.size = items2.size) (hu : A.units < cLine) (I : Nat → Shared → Prop)
    (hl : s.heap.IsTuple l items) (hb : s.heap.IsTuple b items2)
    (turn : ∀ i (h1 : i < items.size) (h2 : i < items2.size) s, I i s → wpAny (model prog w) A.in1 (eqBool items[i] items2[i]) (fun r s' => r = e i ∧ I (i + 1) s') E s) (hr : r = true ↔ ∀ j, j < items.size → e j = true)
    (fin : ∀ i s, I i s → Q (.bool r) s) (h : I 0 s) : wpAny (model prog w) A (richCompare .Eq (.ref l) (.ref b)) Q E s := by
  obtain ⟨⟨cls, dd, data, sl⟩, ho, hc, n, hd⟩ := id hl
  obtain ⟨⟨cls2, dd2, data2, sl2⟩, ho2, hc2, n2, hd2⟩ := id hb
  simp only at hc hd hc2 hd2
  subst hc hd hc2 hd2
  refine wpAny_richCompare_same_room (op := .Eq) ⟨_, ho, rfl⟩ ⟨_, ho2, rfl⟩ F.slot_tuple_eq (GQ.call_here F.slot_tuple_eq ⟨_, ho, rfl⟩ F.entry_tuple_eq (F.args_tuple_eq_2 _ _) ?_) hu
  exact tuple_eqB (R := wants (fun v s' => v ≠ .notImplemented ∧ Q v s') E) l b items items2 n n2 dd dd2 sl sl2 hsz I turn hr (fun i s' q => ⟨(fun x => nomatch x), fin i s' q⟩) ho ho2 h
theorem rc_list_size {l b : Addr} {items items2 : Array Value} {Q : Value → Shared → Prop} (hl : s.heap.IsList l items) (hb : s.heap.IsList b items2) (hsz : items.size ≠ items2.size) (hu : A.units < cLine)
    (h : Q (.bool false) s) : wpAny (model prog w) A (richCompare .Eq (.ref l) (.ref b)) Q E s :=
  RcAt.lists_lengths hl hb (by simpa using hsz) hu prog w E Q h
end
theorem non_eq_ref (b : Addr) : PySem.Gives (Builtin.«NoneType.__eq__» ⟨[.none, .ref b], []⟩) (.val (Value.notImplemented)) :=
  .of_wp fun M A E s Q h => by obtain ⟨hp, g, d, tk, os⟩ := s; wp_walk; exact ⟨_, rfl, h⟩
open PySem.Spec PyProof.Rows L2 TL
/-! ### by the abstract heap -/
abbrev Eqb := V → V → Bool → Hp → Prop
def MonB (D : Eqb) : Prop := ∀ x y r H H', Ext H H' → D x y r H → D x y r H'
def EqB (X : Cx) (n : Nat) (D : Eqb) : Prop :=
  ∀ (A : Around) (pins : List (Addr × Obj)) (s : Shared) (σ : L2.St) (H : Hp) (x y : V) (r : Bool) (u v : Value), Sub X n A → Inv X pins σ H s → RelV x u → RelV y v → D x y r H →
    wpAny (model X.prog X.w) A (eqBool u v) (fun r' s' => r' = r ∧ ∃ H', Inv X pins σ H' s' ∧ Ext H H') X.xe s
def RcB (X : Cx) (n : Nat) (D : Eqb) : Prop :=
  ∀ (A : Around) (pins : List (Addr × Obj)) (s : Shared) (σ : L2.St) (H : Hp) (x y : V) (r : Bool) (u v : Value), Sub X n A → Inv X pins σ H s → RelV x u → RelV y v → D x y r H →
    wpAny (model X.prog X.w) A (richCompare .Eq u v) (fun r' s' => r' = .bool r ∧ ∃ H', Inv X pins σ H' s' ∧ Ext H H') X.xe s
section
variable {X : Cx} {n m : Nat} {D D' : Eqb}
theorem EqB.mono (h : EqB X n D) (hn : n ≤ m) : EqB X m D := fun A pins s σ H x y r u v sb => h A pins s σ H x y r u v (sb.mono hn)
theorem EqB.or (h : EqB X n D) (h' : EqB X n D') : EqB X n (fun x y r H => D x y r H ∨ D' x y r H) := fun A pins s σ H x y r u v sb I rx ry d => by
  rcases d with d | d
  · exact h A pins s σ H x y r u v sb I rx ry d
  · exact h' A pins s σ H x y r u v sb I rx ry d
theorem MonB.or (h : MonB D) (h' : MonB D') : MonB (fun x y r H => D x y r H ∨ D' x y r H) := fun x y r H H' e d => d.elim (fun d => .inl (h x y r H H' e d)) fun d => .inr (h' x y r H H' e d)
theorem EqB.imp (h : EqB X n D) (hd : ∀ x y r H, D' x y r H → D x y r H) : EqB X n D' := fun A pins s σ H x y r u v sb I rx ry d => h A pins s σ H x y r u v sb I rx ry (hd x y r H d)
/-- flat values, and the same thing -/
def BFlat : Eqb := fun x y r _ => (flatV x = true ∧ flatV y = true ∧ eqV x y = r) ∨ ∃ a, x = .ref a ∧ y = .ref a ∧ true = r
theorem monB_flat : MonB BFlat := fun _ _ _ _ _ _ d => d
theorem eqB_flat : EqB X 0 BFlat := by
  intro A pins s σ H x y r u v sb I rx ry d
  obtain ⟨fx, fy, e⟩ | ⟨a, rfl, rfl, rfl⟩ := d
  · have q := eqAt_V (A := A) (s := s) rx ry fx fy
    rw [e] at q
    exact q X.prog X.w X.xe _ ⟨rfl, H, I, Ext.rfl'⟩
  · cases rx
    cases ry
    exact SeqAt.EqAt.same (A := A) (s := s) (.ref a) X.prog X.w X.xe _ ⟨rfl, H, I, Ext.rfl'⟩
/-- item by item; es: what each two answer -/
structure PrB (D : Eqb) (xs ys : List V) (r : Bool) (H : Hp) (es : List Bool) : Prop where
  l1 : xs.length = es.length
  l2 : ys.length = es.length
  d : ∀ (i : Nat) x y b, xs[i]? = some x → ys[i]? = some y → es[i]? = some b → D x y b H
  e : es.all id = r
def PrsB (D : Eqb) (xs ys : List V) (r : Bool) (H : Hp) : Prop := ∃ es, PrB D xs ys r H es
theorem PrsB.mon (hD : MonB D) {xs ys : List V} {r : Bool} {H H' : Hp} (e : Ext H H') (p : PrsB D xs ys r H) : PrsB D xs ys r H' := let ⟨es, p⟩ := p; ⟨es, p.l1, p.l2, fun i x y b h1 h2 h3 => hD x y b H H' e (p.d i x y b h1 h2 h3), p.e⟩
theorem PrsB.nil {H : Hp} : PrsB D [] [] true H := ⟨[], rfl, rfl, fun i x y b h _ => by simp at h, rfl⟩
theorem PrsB.cons {x y : V} {xs ys : List V} {b r : Bool} {H : Hp} (h : D x y b H) (p : PrsB D xs ys r H) : PrsB D (x :: xs) (y :: ys) (b && r) H := by
  obtain ⟨es, p⟩ := p
  refine ⟨b :: es, by rw [List.length_cons, List.length_cons, p.l1], by rw [List.length_cons, List.length_cons, p.l2], fun i x' y' b' h1 h2 h3 => ?_, by rw [List.all_cons, p.e]; rfl⟩
  cases i with
  | zero =>
    simp at h1 h2 h3
    subst h1; subst h2; subst h3
    exact h
  | succ i =>
    simp at h1 h2 h3
    exact p.d i x' y' b' h1 h2 h3
theorem getD_at {es : List Bool} {j : Nat} {d : Bool} (hj : j < es.length) : es.getD j d = es[j] := by
  rw [List.getD_eq_getElem?_getD, List.getElem?_eq_getElem hj] <;> rfl
theorem all_iff {es : List Bool} {r : Bool} (h : es.all id = r) : r = true ↔ ∀ j, j < es.length → es.getD j true = true := by
  subst h
  rw [List.all_eq_true]
  constructor
  · intro h j hj
    rw [getD_at hj]
    exact h _ (List.getElem_mem hj)
  · intro h x hx
    obtain ⟨j, hj, e⟩ := List.getElem_of_mem hx
    have := h j hj
    rw [getD_at hj, e] at this
    exact this
theorem turnB (hD : MonB D) (h : EqB X n D) {A : Around} (sb : Sub X (n + 1) A) {pins : List (Addr × Obj)} {σ : L2.St} {H : Hp} {xs ys : List V} {rr : Bool} {es : List Bool} {its its2 : List Value} (p : PrB D xs ys rr H es) (r : Vals xs its) (r2 : Vals ys its2)
    (i : Nat) (h1 : i < its.toArray.size) (h2 : i < its2.toArray.size) (s' : Shared) (l : LoopI X pins σ H s') :
    wpAny (model X.prog X.w) A.in1 (eqBool its.toArray[i] its2.toArray[i]) (fun r s2 => r = es.getD i true ∧ LoopI X pins σ H s2) X.xe s' := by
  obtain ⟨H1, I1, e1⟩ := l
  have g1 : its[i]? = some its.toArray[i] := by
    have h1' : i < its.length := by simpa using h1
    rw [List.getElem?_eq_getElem h1'] <;> simp
  have g2 : its2[i]? = some its2.toArray[i] := by
    have h2' : i < its2.length := by simpa using h2
    rw [List.getElem?_eq_getElem h2'] <;> simp
  have k1 : i < xs.length := by rw [r.length]; simpa using h1
  have k2 : i < ys.length := by rw [r2.length]; simpa using h2
  have k3 : i < es.length := p.l1 ▸ k1
  obtain ⟨u, hu, ru⟩ := r.get (List.getElem?_eq_getElem k1)
  obtain ⟨v, hv, rv⟩ := r2.get (List.getElem?_eq_getElem k2)
  rw [g1] at hu
  rw [g2] at hv
  rw [Option.some.inj hu, Option.some.inj hv]
  refine wpAny_mono (h A.in1 pins s' σ H1 _ _ _ u v sb.in1 I1 ru rv (hD _ _ _ _ _ e1 (p.d i _ _ _ (List.getElem?_eq_getElem k1) (List.getElem?_eq_getElem k2) (List.getElem?_eq_getElem k3)))) (fun r s2 q => ?_) fun _ _ x => x
  obtain ⟨hr, H2, I2, e2⟩ := q
  exact ⟨by rw [hr, getD_at k3], H2, I2, e1.trans e2⟩
/-- two lists, two tuples -/
def BList (D : Eqb) : Eqb := fun x y r H => ∃ a b xs ys, x = .ref a ∧ y = .ref b ∧ H a = some (.lst xs) ∧ H b = some (.lst ys) ∧ (PrsB D xs ys r H ∨ xs.length ≠ ys.length ∧ false = r)
def BTup (K : PySem.W.Frag) (D : Eqb) : Eqb := fun x y r H => ∃ a b xs ys, x = .ref a ∧ y = .ref b ∧ SqT K H a xs ∧ SqT K H b ys ∧ PrsB D xs ys r H
theorem monB_list (hD : MonB D) : MonB (BList D) := fun x y r H H' e d => by
  obtain ⟨a, b, xs, ys, hx, hy, h1, h2, p⟩ := d
  exact ⟨a, b, xs, ys, hx, hy, e _ _ h1, e _ _ h2, p.imp (PrsB.mon hD e) id⟩
theorem monB_tup {K : PySem.W.Frag} (hD : MonB D) : MonB (BTup K D) := fun x y r H H' e d => by
  obtain ⟨a, b, xs, ys, hx, hy, h1, h2, p⟩ := d
  exact ⟨a, b, xs, ys, hx, hy, h1.ext e, h2.ext e, p.mon hD e⟩
theorem listB_of (hD : MonB D) (h : EqB X n D) {A : Around} (sb : Sub X (n + 1) A) {pins : List (Addr × Obj)} {σ : L2.St} {H : Hp} {a b : Addr} {xs ys : List V} {rr : Bool} {es : List Bool} (ha : H a = some (.lst xs)) (hb : H b = some (.lst ys)) (p : PrB D xs ys rr H es) :
    ListB X.prog X.w A X.xe a b xs.length (fun i => es.getD i true) (fun _ s' => LoopI X pins σ H s') := fun i s' q => by
  obtain ⟨H1, I1, e1⟩ := id q
  obtain ⟨z, its, k, r, e⟩ := I1.hok a _ (e1 _ _ ha)
  obtain ⟨z2, its2, k2, r2, e2⟩ := I1.hok b _ (e1 _ _ hb)
  refine ⟨its.toArray, its2.toArray, k, k2, e, e2, by rw [List.size_toArray, ← r.length], by rw [List.size_toArray, ← r2.length, p.l2, p.l1], fun h1 h2 => ?_⟩
  exact turnB hD h sb p r r2 i h1 h2 s' q
theorem rcB_list (hD : MonB D) (h : EqB X n D) : RcB X (n + 1) (BList D) := by
  intro A pins s σ H x y r u v sb I rx ry d
  obtain ⟨a, b, xs, ys, rfl, rfl, ha, hb, ⟨es, p⟩ | ⟨hl, rfl⟩⟩ := d
  · cases rx
    cases ry
    exact rc_listB sb.room.units0 (fun _ s' => LoopI X pins σ H s') (listB_of hD h sb ha hb p) (p.l1 ▸ all_iff p.e) (fun i s' q => ⟨rfl, q⟩) ⟨H, I, Ext.rfl'⟩
  · cases rx
    cases ry
    obtain ⟨z, its, k, r, e⟩ := I.hok a _ ha
    obtain ⟨z2, its2, k2, r2, e2⟩ := I.hok b _ hb
    refine rc_list_size ⟨_, e, rfl, _, rfl⟩ ⟨_, e2, rfl, _, rfl⟩ (by rw [List.size_toArray, List.size_toArray, ← r.length, ← r2.length]; exact hl) sb.room.units0 ⟨rfl, H, I, Ext.rfl'⟩
theorem rcB_tup (hD : MonB D) (h : EqB X n D) : RcB X (n + 1) (BTup X.K D) := by
  intro A pins s σ H x y r u v sb I rx ry d
  obtain ⟨a, b, xs, ys, rfl, rfl, ha, hb, es, p⟩ := d
  cases rx
  cases ry
  obtain ⟨its, r, e, z⟩ := I.tuple ha
  obtain ⟨its2, r2, e2, z2⟩ := I.tuple hb
  have hsz : its.toArray.size = its2.toArray.size := by rw [List.size_toArray, List.size_toArray, ← r.length, ← r2.length, p.l1, p.l2]
  refine rc_tupB (e := fun i => es.getD i true) hsz sb.room.units0 (fun _ s' => LoopI X pins σ H s') e e2 (fun i h1 h2 s' q => turnB hD h sb p r r2 i h1 h2 s' q) ?_ (fun i s' q => ⟨rfl, q⟩) ⟨H, I, Ext.rfl'⟩
  rw [List.size_toArray, ← r.length, p.l1]
  exact all_iff p.e
/-! ### an own == -/
/-- what the own == promises: y is anything -/
def spEqB (R : Addr → V → Bool → Hp → Prop) : Sp := fun vs H Q _ => ∃ a y r, vs = [.ref a, y] ∧ R a y r H ∧ ∀ H', Ext H H' → Q (.bl r) H'
def BOwn (K : PySem.W.Frag) (C : Addr) (R : Addr → V → Bool → Hp → Prop) : Eqb := fun x y r H => ∃ a dx fs t, x = .ref a ∧ H a = some (.ins C dx fs) ∧ (∀ H', Ext H H' → TyX K H' y t) ∧ PySem.W.notFirst K C t = true ∧ R a y r H
theorem monB_own {K : PySem.W.Frag} {C : Addr} {R : Addr → V → Bool → Hp → Prop} (hR : ∀ a y r H H', Ext H H' → R a y r H → R a y r H') : MonB (BOwn K C R) := fun x y r H H' e d => by
  obtain ⟨a, dx, fs, t, hx, h1, ty, nf, q⟩ := d
  exact ⟨a, dx, fs, t, hx, e _ _ h1, fun H2 e2 => ty H2 (e.trans e2), nf, hR _ _ _ _ _ e q⟩
theorem run_eqB {A : Around} {CX : CXT} {g a : Addr} {y : V} {r : Bool} {v : Value} {R : Addr → V → Bool → Hp → Prop} {E : XK} (F : FnR X.prog X.w X.K X.mg X.base CX n g (spEqB R)) (hx : Passes CX X E) (sb : Sub X n A) {pins : List (Addr × Obj)} {s : Shared} {σ : L2.St} {H : Hp} (I : Inv X pins σ H s) (ry : RelV y v) (hr : R a y r H) :
    wpAny (model X.prog X.w) A (call (.ref g) [.ref a, v]) (PySem.W.CmpBack fun r' s' => r' = .bool r ∧ ∃ H', Inv X pins σ H' s' ∧ Ext H H') X.xe s := by
  have e0 : Env0 X.prog X.w X.K X.mg X.base A X.stack s H := by
    have e := I.env0
    exact ⟨by rw [sb.fr]; exact e.frames, e.mod, e.bs, e.bsz, e.funs, e.frf, e.hok, e.bare⟩
  refine wpAny_mono (wpAny_call (SlX.run_at (us := [.ref a, v]) (ws := [.ref a, y]) (Q := fun z H' => z = .bl r ∧ Ext H H') F sb.room e0 hx I (.cons rfl (.cons ry .nil)) ⟨a, y, r, rfl, hr, fun H' e => ⟨rfl, e⟩⟩)) (fun w s' z => ?_) fun _ _ x => x
  obtain ⟨z', H', I', rz, ez, ex⟩ := z
  subst ez
  exact SlX.cmpback rz (P := fun r' s' => r' = .bool r ∧ ∃ H', Inv X pins σ H' s' ∧ Ext H H') ⟨rz, H', I', ex⟩
theorem rcB_own {CX : CXT} {C g : Addr} {R : Addr → V → Bool → Hp → Prop} {E : XK} (hs : PySem.W.findIn X.K (.ref C) "__eq__" = some (some (.ref g))) (hf : PySem.W.isFn X.K (.ref g) = true) (F : FnR X.prog X.w X.K X.mg X.base CX n g (spEqB R)) (hx : Passes CX X E) : RcB X n (BOwn X.K C R) := by
  intro A pins s σ H x y r u v sb I rx ry d
  obtain ⟨a, dx, fs, t, rfl, ha, ty, nf, hr⟩ := d
  cases rx
  obtain ⟨od, J⟩ := ins_inst I ha
  obtain ⟨Pk, kx, hP, _⟩ := L2.kit_of I ry (ty H Ext.rfl')
  obtain ⟨m, hF⟩ := I.fr
  exact PySem.W.cmp_K (op := .Eq) (tb := t) sb.room.units0 hF I.ok.mod.kin J (kx.ty _ _ I.kIn hP) nf hs hf (run_eqB F hx sb I ry hr)
/-- None on the left, one of the own class on the right -/
def BNon (C : Addr) (R : Addr → V → Bool → Hp → Prop) : Eqb := fun x y r H => ∃ b dy gs, x = .non ∧ y = .ref b ∧ H b = some (.ins C dy gs) ∧ R b .non r H
theorem monB_non {C : Addr} {R : Addr → V → Bool → Hp → Prop} (hR : ∀ a y r H H', Ext H H' → R a y r H → R a y r H') : MonB (BNon C R) := fun x y r H H' e d => by
  obtain ⟨b, dy, gs, hx, hy, h1, q⟩ := d
  exact ⟨b, dy, gs, hx, hy, e _ _ h1, hR _ _ _ _ _ e q⟩
theorem rcB_non {CX : CXT} {C g : Addr} {R : Addr → V → Bool → Hp → Prop} {E : XK} (hs : PySem.W.findIn X.K (.ref C) "__eq__" = some (some (.ref g))) (hf : PySem.W.isFn X.K (.ref g) = true) (hsub : PySem.W.subIn X.K (.ref C) (.type "NoneType") = some false)
    (F : FnR X.prog X.w X.K X.mg X.base CX n g (spEqB R)) (hx : Passes CX X E) : RcB X n (BNon C R) := by
  intro A pins s σ H x y r u v sb I rx ry d
  obtain ⟨b, dy, gs, rfl, rfl, hb, hr⟩ := d
  cases (show u = Value.none from rx)
  cases (show v = Value.ref b from ry)
  obtain ⟨od, J⟩ := ins_inst I hb
  have back := run_eqB (y := .non) (v := .none) (A := A) F hx sb I rfl hr
  have one : wpAny (model X.prog X.w) A (tryCompare (.ref b) (cmpInfo .Eq).2.2 .none) (fun r' s' => ∃ w, r' = some w ∧ (w = .bool r ∧ ∃ H', Inv X pins σ H' s' ∧ Ext H H')) X.xe s := by
    unfold tryCompare
    refine wpAny_bind (PySem.W.ifBound_K I.kIn J hs hf (wpAny_mono back (fun v s' hv => ?_) fun _ _ e => e))
    cases v <;> first | exact hv.elim | exact wpAny_pure ⟨_, rfl, hv⟩
  unfold richCompare
  rw [(show s.TypeIs .none "NoneType" from rfl).oneThing_none]
  refine wpAny_holding (wpAny_bind (wpAny_cRoomFor sb.room.units0 ?_))
  refine wpAny_bind (wpAny_typeOf (show s.TypeIs .none "NoneType" from rfl) (wpAny_bind (J.type.here ?_)))
  rw [if_pos (show (Value.type "NoneType" != Value.ref C) = true from rfl)]
  refine wpAny_bind ((PySem.W.looks_subIn I.kIn hsub).here ?_)
  simp only [Bool.false_eq_true, if_false, Bool.not_false, if_true]
  refine wpAny_bind (m := tryCompare .none _ (.ref b)) (wpAny_tryCompare_declines (show s.TypeIs .none "NoneType" from rfl) PySem.F.slot_NoneType_eq (call_gives PySem.F.slot_NoneType_eq rfl PySem.F.entry_NoneType_eq (PySem.F.args_NoneType_eq_2 _ _) (non_eq_ref b) ⟨rfl, ?_⟩))
  refine wpAny_bind (m := tryCompare (.ref b) _ .none) (wpAny_mono one (fun r' s' z => ?_) fun _ _ e => e)
  obtain ⟨w, rfl, q⟩ := z
  exact wpAny_pure q
/-- from a rich comparison to == inside a list or tuple -/
theorem RcB.eqB (h : RcB X n D) (hr : ∀ x y r H, D x y r H → (∃ a, x = .ref a ∧ y = .ref a ∧ true = r) ∨ (∃ a b, x = .ref a ∧ y = .ref b ∧ a ≠ b) ∨ (∃ a, x = .ref a ∧ y = .non) ∨ ∃ a, x = .non ∧ y = .ref a) : EqB X n D := by
  intro A pins s σ H x y r u v sb I rx ry d
  have go : u ≠ v → (∀ a b, ¬ (u = .float a b)) → wpAny (model X.prog X.w) A (eqBool u v) (fun r' s' => r' = r ∧ ∃ H', Inv X pins σ H' s' ∧ Ext H H') X.xe s := fun hne hfl => by
    have z := h A pins s σ H x y r u v sb I rx ry d
    unfold eqBool
    refine wpAny_holding ?_
    refine wpAny_ite_split (fun hab => absurd (eq_of_beq hab) hne) (fun _ => ?_)
    have fin : wpAny (model X.prog X.w) A (do truthOfDropped (← richCompare .Eq u v)) (fun r' s' => r' = r ∧ ∃ H', Inv X pins σ H' s' ∧ Ext H H') X.xe s := by
      refine wpAny_bind (wpAny_mono z (fun v s' hv => ?_) fun _ _ x => x)
      obtain ⟨rfl, q⟩ := hv
      exact wpAny_truthy_bool ⟨rfl, q⟩
    cases u with
    | float a b => exact (hfl a b rfl).elim
    | _ => exact fin
  rcases hr _ _ _ _ d with ⟨a, rfl, rfl, rfl⟩ | ⟨a, b, rfl, rfl, hab⟩ | ⟨a, rfl, rfl⟩ | ⟨a, rfl, rfl⟩
  · cases rx
    cases ry
    exact SeqAt.EqAt.same (A := A) (s := s) (.ref a) X.prog X.w X.xe _ ⟨rfl, H, I, Ext.rfl'⟩
  · cases rx
    cases ry
    exact go (fun e => hab (by injection e)) fun _ _ => nofun
  · cases rx
    cases (show v = Value.none from ry)
    exact go nofun fun _ _ => nofun
  · cases (show u = Value.none from rx)
    cases ry
    exact go nofun fun _ _ => nofun
/-! ### as expressions -/
def rEqB (D : Eqb) : R2 := fun x y H Q => ∃ r, D x y r H ∧ ∀ H', Keep [] H H' → Q (.bl r) H'
def rNeB (D : Eqb) : R2 := fun x y H Q => ∃ r, D x y r H ∧ ∀ H', Keep [] H H' → Q (.bl (!r)) H'
theorem op_eqB (h : RcB X n D) (hr : Room n X.A) : OpR X (compareOp .Eq) (rEqB D) := by
  intro pins s σ H x y v u Q I rx ry hq
  obtain ⟨r, d, q⟩ := hq
  show wpAny (model X.prog X.w) X.A (richCompare .Eq v u) (EP X pins σ Q) X.xe s
  refine wpAny_mono (h X.A pins s σ H x y r v u ⟨hr, rfl⟩ I rx ry d) (fun r' s' z => ?_) fun _ _ x => x
  obtain ⟨hr', H', I', e⟩ := z
  subst hr'
  exact ⟨.bl r, H', I', rfl, q H' (Keep.of_same e)⟩
theorem op_neB (hD : MonB D) (h : EqB X n D) (hr : Room (n + 1) X.A) : OpR X (compareOp .NotEq) (rNeB (BList D)) := by
  intro pins s σ H x y v u Q I rx ry hq
  obtain ⟨r, ⟨a, b, xs, ys, rfl, rfl, ha, hb, ⟨es, p⟩ | ⟨hl, rfl⟩⟩, q⟩ := hq
  · cases rx
    cases ry
    show wpAny (model X.prog X.w) X.A (richCompare .NotEq _ _) (EP X pins σ Q) X.xe s
    refine rc_listNB (r := r) hr.units0 (fun _ s' => LoopI X pins σ H s') (listB_of hD h ⟨hr, rfl⟩ ha hb p) (p.l1 ▸ all_iff p.e) (fun i s' z => ?_) ⟨H, I, Ext.rfl'⟩
    obtain ⟨H', I', e⟩ := z
    exact ⟨.bl (!r), H', I', rfl, q H' (Keep.of_same e)⟩
  · cases rx
    cases ry
    obtain ⟨z, its, k, r, e⟩ := I.hok a _ ha
    obtain ⟨z2, its2, k2, r2, e2⟩ := I.hok b _ hb
    show wpAny (model X.prog X.w) X.A (richCompare .NotEq _ _) (EP X pins σ Q) X.xe s
    exact RcNeAt.lists_lengths ⟨_, e, rfl, _, rfl⟩ ⟨_, e2, rfl, _, rfl⟩ (by simpa [← r.length, ← r2.length] using hl) hr.units0 X.prog X.w X.xe _ ⟨.bl true, H, I, rfl, q H Keep.refl⟩
end
end FR
set_option Elab.async false
set_option linter.all false
set_option maxRecDepth 100000
set_option maxHeartbeats 4000000
/-! C.m(e, *y), m a classmethod of the class C -/
namespace FR
open PySem PySem.Spec PyProof.Rows L2 TL ClX
def tCMethS (K : PySem.W.Frag) (C : Addr) (sp : Sp) (E : XK) (ta t1 t2 : TE) : TE := fun σ H Q => ta σ H fun x H1 => x = .ref C ∧ t1 σ H1 fun y1 H2 => t2 σ H2 fun y2 H3 => ∃ b vs, y2 = .ref b ∧ (SqT K H3 b vs ∨ SqL K H3 b vs) ∧ sp (.ref C :: y1 :: vs) H3 Q E
theorem pe_cmethS {X : Cx} {CX : CXT} {k : Nat} {C p g : Addr} {mc : Value} {sp : Sp} {E : XK} {o e1 e2 : Expr} {m : Str} {pos apos sp_ : Pos} {ta t1 t2 : TE} (he : PE X o ta) (r : CRead X.K C mc) (c : CMet X.K C mc m p g) (F : FnR X.prog X.w X.K X.mg X.base CX k g sp) (hr : Room k X.A) (hx : Passes CX X E)
    (h1 : PE X e1 t1) (h2 : PE X e2 t2) (hbase : attributeBase o m X.env (eval o X.env) = eval o X.env := by rfl)
    (hst : starEach [e1, .Starred e2 sp_] X.env = [(false, eval e1 X.env), (true, eval e2 X.env)] := by rfl) : PE X (.Call (.Attribute o m apos) [e1, .Starred e2 sp_] [] pos) (tCMethS X.K C sp E ta t1 t2) := by
  refine ⟨fun pins s σ H Q I h => ?_⟩
  refine starcall2_of hbase hst (thn (he.run pins s σ H _ I h) fun u s1 ⟨x, H1, I1, rx, ex, q⟩ => ?_)
  subst ex
  obtain rfl : u = Value.ref C := rx
  refine getcmet_ok I1 r c fun s2 I2 => ?_
  refine PySem.W.ks_call (P := PySem.W.MethP X.K s1.heap.objs.size g (.ref C)) rfl (PySem.W.keeps_M c.fi) (PySem.Calls.evalArgs_plain (PySem.Calls.spliced_cons (thn (h1.run _ s2 σ _ _ I2 q) fun v1 s3 ⟨y1, H2, I3, ry1, q2⟩ =>
    PySem.W.ks_spliced (thn (h2.run _ s3 σ H2 _ I3 q2) fun v2 s4 ⟨y2, H3, I4, ry2, t, vs, ey, ht, hsp⟩ => ?_))))
  subst ey
  obtain rfl : v2 = Value.ref t := ry2
  refine StX.star_any I4 ht fun us s5 I5 rv => PySem.Calls.spliced_nil ?_
  show PySem.W.MethP X.K s1.heap.objs.size g (.ref C) s5.heap ∧ wpAny (model X.prog X.w) X.A (call (.ref s1.heap.objs.size) (v1 :: (us ++ [])) []) (EP X pins σ Q) X.xe s5
  rw [List.append_nil]
  exact ⟨⟨pin_at I5, I5.kIn⟩, run_cm F hr hx I5 (.cons ry1 rv) hsp⟩
end FR
set_option Elab.async false
set_option linter.all false
set_option maxRecDepth 100000
set_option maxHeartbeats 4000000
/-! x not in a list of texts, x anything; o.m(..) in a try -/
namespace FR
open PySem PySem.Spec PyProof.Rows L2 TL PySem.SeqAt
section
variable {X : Cx}
def NInT (K : PySem.W.Frag) (H : Hp) (v : V) (ws : List Str) (r : Bool) : Prop := (∃ d, Dp K H v d ∧ SeqAt.shaped d = true ∧ SeqAt.shaped (.list (ws.map .str)) = true ∧ ((ws.map PyData.str).any fun z => PyData.eqv z d) = r) ∨
  ∃ (a : Addr) (kvs : List (Key × V)), v = .ref a ∧ H a = some (.dK kvs) ∧ false = r
def rNotInT (K : PySem.W.Frag) : R2 := fun x y H Q => ∃ (p : Addr) (ws : List Str) (r : Bool), y = .ref p ∧ SqL K H p (ws.map V.str) ∧ NInT K H x ws r ∧ Q (.bl (!r)) H
theorem op_notInT (hu : X.A.units + 65 < cLine) : OpR X (compareOp .NotIn) (rNotInT X.K) := by
  intro pins s σ H x y v u Q I rx ry h
  obtain ⟨p, ws, r, rfl, hp, ⟨d, hd, s1, s2, rfl⟩ | ⟨a, kvs, rfl, ha, rfl⟩, q⟩ := h
  · exact op_notInD hu pins s σ H x _ v u Q I rx ry ⟨d, _, hd, .lst hp (dpAll_strs ws), s1, s2, q⟩
  · cases (show v = Value.ref a from rx)
    cases (show u = Value.ref p from ry)
    obtain ⟨_, _, vs, kv, o, es, ep, e, hx, hd, _, _, _⟩ := (show ObjOk X.prog X.w H s.heap a (.dK _) from I.hok _ _ ha)
    obtain ⟨its, rv, hl, _⟩ := I.list hp
    refine notIn_listAt (fun _ => false) hl.isList (fun z hz => ?_) ⟨.bl true, H, I, ?_, q⟩
    · obtain ⟨x, t, rfl⟩ := vals_strs rv z (by simpa using hz)
      exact eqAt_str_dict x t e hx.1 hd (by show X.A.units + 1 < cLine; omega)
    · show Value.bool _ = Value.bool true
      simp
end
/-! ### o.m(..) in a try: what m lets out is taken at the slots of the moment -/
def tMethT (C : Addr) (m : Str) (sp : Sp) (E : L2.St → XK) (ta : TE) (t : TA) : TE := fun σ H Q => ta σ H fun x H1 => ∃ a dx fs, x = .ref a ∧ H1 a = some (.ins C dx fs) ∧ fs.lookup m = none ∧ t σ H1 fun vs H2 => sp (x :: vs) H2 Q (E σ)
section
variable {X : Cx} {CX : CXT} {k : Nat} {f C : Addr} {fd : FuncData} {ps : List Str} {sp : Sp} {E : L2.St → XK} {o e : Expr} {es : List Expr} {m : Str} {ta : TE} {t : TA} {apos pos : Pos}
theorem pe_methT {pl : Sem Bool} (he : PE X o ta) (c : Cls X.K C) (hm : Meth X.K C m f) (F : FnOk X.prog X.w X.K X.mg X.base CX k f fd ps sp) (hr : Room k X.A) (hb : Binds X.K fd ps []) (hx : ∀ σ, PassesAt CX X σ (E σ)) (ha : PA X (e :: es) t)
    (hst : starEach (e :: es) X.env = (false, eval e X.env) :: starEach es X.env := by rfl) (hpl : (backTo pos (starEach es X.env)).any (·.1) = false := by rfl)
    (ht : eval (.Call (.Attribute o m apos) (e :: es) [] pos) X.env = (do
      let ov ← eval o X.env
      standAt apos.atName
      let (f, first) ← holding [ov] (getMethod ov m pl)
      callWith pos f first (backTo pos (starEach (e :: es) X.env)) (backToKw pos (keywordEach [] X.env))) := by rfl) :
    PE X (.Call (.Attribute o m apos) (e :: es) [] pos) (tMethT C m sp E ta t) := by
  refine ⟨fun pins s σ H Q I h => ?_⟩
  refine PySem.W.methodCall_KW (pl := pl) (thn (he.run pins s σ H _ I h) fun u s1 ⟨x, H1, I1, rx, a, dx, fs, ex, ea, l, q⟩ => ?_) ht
  subst ex
  obtain rfl : u = Value.ref a := rx
  refine getmeth_ok I1 ea c hm l ?_
  refine PySem.W.callWith_K (first := [.ref a]) (h₀ := X.base) I.ok.mod.kin hm.kp (thn (ha.run pos pins s1 σ H1 _ I1 q) fun us s2 ⟨vs, H2, I2, r, q2⟩ => ⟨I2.kIn, ?_⟩) hst hpl
  have r2 : Vals (V.ref a :: vs) (Value.ref a :: us) := .cons rfl r
  have hl : (Value.ref a :: us).length = ps.length := by
    rw [← r2.length]
    exact F.len _ _ _ _ q2
  have b := hb _ (Value.ref a :: us) I2.kIn (by rw [List.append_nil]; exact hl)
  rw [List.append_nil] at b
  refine wpAny_call (codeAny_mono (F.run _ X.stack _ _ ⟨Value.ref a :: us, []⟩ _ _ _ (E σ) hr I2.env0 b r2 q2) fun res s' y => ?_)
  cases res with
  | error e => exact hx σ pins _ _ e s' I2 y
  | ok fl =>
    cases fl with
    | ret u => exact I2.after y
    | _ => exact y.elim
end
end FR
set_option Elab.async false
set_option linter.all false
set_option maxRecDepth 100000
set_option maxHeartbeats 4000000
/-! a + b of lists, list(x): the new list lies behind sysModules -/
namespace FR
open PySem PySem.Spec PyProof.Rows
section
open L2
variable {X : Cx} {K : PySem.W.Frag}
def rCatS : R2 := fun x y H Q => ∃ l b xs zs, x = .ref l ∧ y = .ref b ∧ H l = some (.lst xs) ∧ H b = some (.lst zs) ∧ xs.length + zs.length ≤ sizeLine ∧ NewS (.lst (xs ++ zs)) Q H
theorem op_catS : OpR X (binaryOp .Add) rCatS := fun pins s σ H x y v u Q I rx ry h => by
  obtain ⟨l, b, xs, zs, rfl, rfl, hl, hb, hz, q⟩ := h
  cases rx
  cases ry
  obtain ⟨_, its, n, r, e0, e⟩ := I.lstM hl
  obtain ⟨_, its2, n2, r2, e1, e2⟩ := I.lstM hb
  refine PySem.P.add_list e e2 ?_ (by rw [List.size_toArray, List.size_toArray]; omega)
  rw [show its.toArray ++ its2.toArray = (its ++ its2).toArray by simp]
  exact ⟨.ref _, _, I.lnew (t' := s.toks) (r.append r2) (by rw [List.length_append]; omega), rfl, q.to _ _ I.fresh I.big (keep_new I.fresh) upd_same⟩
def rLofS (K : PySem.W.Frag) : List V → Hp → VK → Prop := fun xs H Q => ∃ p ys, xs = [.ref p] ∧ SqL K H p ys ∧ NewS (.lst ys) Q H
theorem call_lofS (hK : X.K = K) : CallR X (.type "list") (rLofS K) := fun pins s σ H xs us Q I r h => by
  subst hK
  obtain ⟨p, ys, rfl, hq, q⟩ := h
  obtain ⟨u, rfl, rx⟩ : ∃ u, us = [u] ∧ RelV (.ref p) u := by
    cases r with
    | cons a b => cases b; exact ⟨_, rfl, a⟩
  cases rx
  obtain ⟨its, r', pl, hz⟩ := I.list hq
  have hlen := r'.length
  obtain ⟨o, ho, hc, n, hd⟩ := pl.isList
  refine call_list_seq p (.inl rfl) ho hc hd (fun h' c' kp e => ?_) (by simp only [List.size_toArray] <;> omega)
  exact ⟨.ref s.heap.objs.size, _, I.laid (t' := s.toks) kp (Nat.le_refl _) (show ObjOk X.prog X.w _ h' _ (.lst ys) from ⟨hz, its, c', r', e⟩), rfl, q.to _ _ (I.hok.fresh (Nat.le_refl _)) I.big (keep_new (I.hok.fresh (Nat.le_refl _))) upd_same⟩
def rSlS (K : PySem.W.Frag) : V → Option Int → Option Int → Hp → VK → Prop := fun x lo hi H Q => ∃ a xs, x = .ref a ∧ SqL K H a xs ∧ NewS (.lst (cutV xs lo hi)) Q H
theorem sl_listS : SlR X (rSlS X.K) := fun pins s σ H x v vl vu lo hi sl Q I rx hs pl pu h => by
  obtain ⟨a, xs, rfl, hx, q⟩ := h
  cases rx
  obtain ⟨its, r, ht, hz⟩ := I.list hx
  have hlen := r.length
  refine ⟨"list", _, slot_list_getitem.lookup, ht.isList.typeIs, ?_⟩
  refine wpAny_getItem_list_slice ht.isList hs pl pu .none (by simp) ?_ (by rw [List.size_toArray] <;> omega)
  rw [slicePick_cut, ← hlen]
  refine ⟨.ref s.heap.objs.size, _, I.laid (t' := s.toks) (o := .lst (cutV xs lo hi)) (fun b ob q => Heap.get?_push_of_some _ q) (Nat.le_refl _) ?_, rfl, q.to _ _ (I.hok.fresh (Nat.le_refl _)) I.big (keep_new (I.hok.fresh (Nat.le_refl _))) upd_same⟩
  exact ⟨Nat.le_trans (cutV_length xs lo hi) hz, _, 0, (r.drop (HT.sIx xs.length 0 lo)).take (HT.sIx xs.length xs.length hi - HT.sIx xs.length 0 lo), Heap.get?_push_size _ rfl⟩
end
end FR
set_option Elab.async false
set_option linter.all false
set_option maxRecDepth 100000
set_option maxHeartbeats 8000000
local macro_rules | `(tactic| walk_at "sq") => `(tactic| first
  | (refine' FR.Ow.sq (i := 0) ?w ?e; (case w => assumption); (case e => rfl))
  | (refine' FR.Ow.sq (i := 1) ?w ?e; (case w => assumption); (case e => rfl))
  | (refine' FR.Ow.sq (i := 2) ?w ?e; (case w => assumption); (case e => rfl))
  | (refine' FR.Ow.sq (i := 3) ?w ?e; (case w => assumption); (case e => rfl))
  | (refine' FR.Ow.sq (i := 4) ?w ?e; (case w => assumption); (case e => rfl))
  | (refine' FR.Ow.sq (i := 5) ?w ?e; (case w => assumption); (case e => rfl))
  | (refine' FR.Ow.sq (i := 6) ?w ?e; (case w => assumption); (case e => rfl))
  | (refine' FR.Ow.sq (i := 7) ?w ?e; (case w => assumption); (case e => rfl))
  | (refine' FR.Ow.sq (i := 8) ?w ?e; (case w => assumption); (case e => rfl))
  | (refine' FR.Ow.sq (i := 9) ?w ?e; (case w => assumption); (case e => rfl))
  | (refine' FR.Ow.sq (i := 10) ?w ?e; (case w => assumption); (case e => rfl))
  | (refine' FR.Ow.sq (i := 11) ?w ?e; (case w => assumption); (case e => rfl))
  | (refine' FR.Ow.sq (i := 12) ?w ?e; (case w => assumption); (case e => rfl))
  | (refine' FR.Ow.sq (i := 13) ?w ?e; (case w => assumption); (case e => rfl))
  | assumption)
local macro_rules | `(tactic| walk_at "hp") => `(tactic| first
  | (refine' FR.Ow.get (i := 0) ?w ?e; (case w => assumption); (case e => rfl))
  | (refine' FR.Ow.get (i := 1) ?w ?e; (case w => assumption); (case e => rfl))
  | (refine' FR.Ow.get (i := 2) ?w ?e; (case w => assumption); (case e => rfl))
  | (refine' FR.Ow.get (i := 3) ?w ?e; (case w => assumption); (case e => rfl))
  | (refine' FR.Ow.get (i := 4) ?w ?e; (case w => assumption); (case e => rfl))
  | (refine' FR.Ow.get (i := 5) ?w ?e; (case w => assumption); (case e => rfl))
  | (refine' FR.Ow.get (i := 6) ?w ?e; (case w => assumption); (case e => rfl))
  | (refine' FR.Ow.get (i := 7) ?w ?e; (case w => assumption); (case e => rfl))
  | (refine' FR.Ow.get (i := 8) ?w ?e; (case w => assumption); (case e => rfl))
  | (refine' FR.Ow.get (i := 9) ?w ?e; (case w => assumption); (case e => rfl))
  | (refine' FR.Ow.get (i := 10) ?w ?e; (case w => assumption); (case e => rfl))
  | (refine' FR.Ow.get (i := 11) ?w ?e; (case w => assumption); (case e => rfl))
  | (refine' FR.Ow.get (i := 12) ?w ?e; (case w => assumption); (case e => rfl))
  | (refine' FR.Ow.get (i := 13) ?w ?e; (case w => assumption); (case e => rfl))
  | assumption)
local macro_rules | `(tactic| walk_at "ar") => `(tactic| first | assumption | omega | decide)
local macro_rules | `(tactic| walk_at "cd") => `(tactic| first
  | assumption | (with_reducible rfl) | exact (rfl : List.length _ = _) | (dsimp only; walk_at "ar") | walk_at "ar"
  | (refine And.intro (a := (_ : Int) < _) ?_ ?_ <;> walk_at "ar")
  | (refine And.intro (a := (0 : Int) ≤ _) ?_ (And.intro ?_ ?_) <;> walk_at "ar")
  | exact FR.size_le (by omega) | exact FR.size_ok (by omega)
  | (refine Or.inl (And.intro ?_ ?_) <;> walk_at "ar")
  | (refine Or.inr (And.intro ?_ ?_) <;> walk_at "ar"))
local macro_rules | `(tactic| walk_at "ty") => `(tactic| first
  | exact L2.TyOf.int _
  | exact L2.TyOf.str _
  | exact L2.TyOf.bl _
  | exact L2.TyOf.non
  | (refine' L2.TyOf.lst ?e; (case e => walk_at "hp"))
  | (refine' L2.TyOf.tup ?e; (case e => walk_at "hp"))
  | (refine' L2.TyOf.dK ?e; (case e => walk_at "hp")))
local macro_rules | `(tactic| walk_at "kit") => `(tactic| first
  | exact FR.ki_int_str
  | exact FR.ki_int_int
  | exact FR.ki_int_bool
  | exact FR.ki_int_list
  | exact FR.ki_int_tuple
  | exact FR.ki_int_dict
  | exact FR.ki_str_str
  | exact FR.ki_str_int
  | exact FR.ki_str_bool
  | exact FR.ki_str_list
  | exact FR.ki_str_tuple
  | exact FR.ki_str_dict
  | exact FR.ki_bl_str
  | exact FR.ki_bl_int
  | exact FR.ki_bl_bool
  | exact FR.ki_bl_list
  | exact FR.ki_bl_tuple
  | exact FR.ki_bl_dict
  | exact FR.ki_non_str
  | exact FR.ki_non_int
  | exact FR.ki_non_bool
  | exact FR.ki_non_list
  | exact FR.ki_non_tuple
  | exact FR.ki_non_dict
  | exact FR.ki_lst_str
  | exact FR.ki_lst_int
  | exact FR.ki_lst_bool
  | exact FR.ki_lst_list
  | exact FR.ki_lst_tuple
  | exact FR.ki_lst_dict
  | exact FR.ki_tup_str
  | exact FR.ki_tup_int
  | exact FR.ki_tup_bool
  | exact FR.ki_tup_list
  | exact FR.ki_tup_tuple
  | exact FR.ki_tup_dict
  | exact FR.ki_dK_str
  | exact FR.ki_dK_int
  | exact FR.ki_dK_bool
  | exact FR.ki_dK_list
  | exact FR.ki_dK_tuple
  | exact FR.ki_dK_dict)
local macro_rules | `(tactic| walk_at "isi") => `(tactic| (refine' ⟨_, _, _, _, _, rfl, L2.ClsV.ty _, L2.TyX.base ?k1, L2.kit_ty ?k2, ?k3⟩; (case k1 => walk_at "ty"); (case k2 => walk_at "kit")))
local macro_rules | `(tactic| walk_at "w1") => `(tactic| first
  | (refine' FR.with1 0 ?k1 ?k2 (by assumption) (by assumption) ?k3; (case k1 => assumption); (case k2 => rfl); intro W)
  | (refine' FR.with1 1 ?k1 ?k2 (by assumption) (by assumption) ?k3; (case k1 => assumption); (case k2 => rfl); intro W)
  | (refine' FR.with1 2 ?k1 ?k2 (by assumption) (by assumption) ?k3; (case k1 => assumption); (case k2 => rfl); intro W)
  | (refine' FR.with1 3 ?k1 ?k2 (by assumption) (by assumption) ?k3; (case k1 => assumption); (case k2 => rfl); intro W)
  | (refine' FR.with1 4 ?k1 ?k2 (by assumption) (by assumption) ?k3; (case k1 => assumption); (case k2 => rfl); intro W)
  | (refine' FR.with1 5 ?k1 ?k2 (by assumption) (by assumption) ?k3; (case k1 => assumption); (case k2 => rfl); intro W)
  | (refine' FR.with1 6 ?k1 ?k2 (by assumption) (by assumption) ?k3; (case k1 => assumption); (case k2 => rfl); intro W)
  | (refine' FR.with1 7 ?k1 ?k2 (by assumption) (by assumption) ?k3; (case k1 => assumption); (case k2 => rfl); intro W)
  | (refine' FR.with1 8 ?k1 ?k2 (by assumption) (by assumption) ?k3; (case k1 => assumption); (case k2 => rfl); intro W)
  | (refine' FR.with1 9 ?k1 ?k2 (by assumption) (by assumption) ?k3; (case k1 => assumption); (case k2 => rfl); intro W)
  | (refine' FR.with1 10 ?k1 ?k2 (by assumption) (by assumption) ?k3; (case k1 => assumption); (case k2 => rfl); intro W)
  | (refine' FR.with1 11 ?k1 ?k2 (by assumption) (by assumption) ?k3; (case k1 => assumption); (case k2 => rfl); intro W)
  | (refine' FR.with1 12 ?k1 ?k2 (by assumption) (by assumption) ?k3; (case k1 => assumption); (case k2 => rfl); intro W)
  | (refine' FR.with1 13 ?k1 ?k2 (by assumption) (by assumption) ?k3; (case k1 => assumption); (case k2 => rfl); intro W))
local macro_rules | `(tactic| walk_at "obj") => `(tactic| first
  | (refine FR.NewO.mk ?_; intro p H np kp hp; refine' FR.withN ?k1 np kp hp ?k2; (case k1 => assumption); intro W)
  | (refine FR.NewS.mk ?_; intro p H np sp kp hp; refine' FR.withN ?k1 np kp hp ?k2; (case k1 => assumption); intro W)
  | (refine FR.MutO.mk ?_; intro H kp hp; walk_at "w1"))
local macro_rules | `(tactic| walk_at "sz") => `(tactic| exact FR.size_ok (by (try simp only [List.length_map, List.length_append, List.length_cons, List.length_nil]); omega))
local macro_rules | `(tactic| walk_at "rd1") => `(tactic| first
  | (refine ⟨_, rfl, ?_⟩)
  | (refine ⟨_, _, rfl, rfl, ?_⟩)
  | (refine ⟨_, _, rfl, ?_⟩)
  | (refine' ⟨_, _, _, _, rfl, rfl, ?k1, ?k2, ?k3⟩; (case k1 => walk_at "hp"); (case k2 => rfl); walk_at "obj")
  | (refine' ⟨_, _, _, _, rfl, rfl, ?k1, ?k2, ?k3⟩; (case k1 => walk_at "sq"); (case k2 => rfl))
  | walk_at "obj"
  | (refine' ⟨_, _, _, rfl, rfl, ?k1, ?k2, ?k3⟩; (case k1 => walk_at "hp"); (case k2 => walk_at "sz"); walk_at "obj")
  | (refine And.intro (show List.length _ ≤ PySem.sizeLine from Nat.le_of_ble_eq_true rfl) ?_; walk_at "obj")
  | (refine' ⟨_, _, rfl, Or.inl ?k1, ?k2⟩; (case k1 => walk_at "sq"))
  | (refine FR.ifT rfl ?_) | (refine FR.ifF rfl ?_)
  | (refine And.intro (show L2.scal _ _ = true from rfl) ?_)
  | (refine And.intro (show L2.tyV _ "str" (L2.V.str _) _ from rfl) ?_)
  | (refine' And.intro (show L2.tyV _ "list" (L2.V.ref _) _ from Or.inl ⟨rfl, _, ?k1⟩) ?k2; (case k1 => walk_at "sq"))
  | (refine And.intro (Exists.intro _ rfl) ?_)
  | (refine And.intro (show L2.wipe _ _ = L2.wipe _ _ from rfl) ?_)
  | (refine And.intro (by walk_at "cd") ?_)
  | walk_at "isi")
local macro_rules | `(tactic| walk_at "rd") => `(tactic| repeat walk_at "rd1")
local macro_rules | `(tactic| walk_at "take") => `(tactic| (refine' ⟨_, _, _, _, _, _, rfl, ?k1, ?k2, ?k3, ?k4, ?k5, ?k6⟩; (case k1 => walk_at "hp"); (case k2 => assumption); (case k3 => omega); (case k4 => first | decide | omega); (case k5 => first | decide | omega); intro d x y z H d0 d1 ok kp hb; walk_at "w1"))
local macro_rules | `(tactic| walk_at "kwb") => `(tactic| (intro kV doc pm an cdv ct us ws l1 l2; match us, ws, l1, l2 with | [_], [_], _, _ => rfl))
set_option Elab.async false
set_option linter.all false
set_option maxRecDepth 100000
namespace K24
open PySem PySem.Spec PyProof.Rows L2 FR
def top (i : Nat) : Stmt := PySem.Challenge.pw_filerights_k24_people_refused.main.body.getD i (.Pass ⟨0, 0, 0, 0⟩)
def inCls (s : Stmt) (j : Nat) : Stmt := match s with
  | .ClassDef _ _ _ b _ _ _ _ _ _ _ => b.getD j (.Pass ⟨0, 0, 0, 0⟩)
  | _ => .Pass ⟨0, 0, 0, 0⟩
abbrev s_is_name : Stmt := top 10
abbrev N_is_name : List Str := ["value"]
theorem sc_is_name : FnScope N_is_name ["value"] (defScope s_is_name) := ⟨rfl, rfl, rfl, by decide +kernel, rfl, by decide +kernel, by decide +kernel⟩
abbrev s_is_user_name : Stmt := top 11
abbrev N_is_user_name : List Str := ["value"]
theorem sc_is_user_name : FnScope N_is_user_name ["value"] (defScope s_is_user_name) := ⟨rfl, rfl, rfl, by decide +kernel, rfl, by decide +kernel, by decide +kernel⟩
abbrev s_is_list : Stmt := top 12
abbrev N_is_list : List Str := ["value"]
theorem sc_is_list : FnScope N_is_list ["value"] (defScope s_is_list) := ⟨rfl, rfl, rfl, by decide +kernel, rfl, by decide +kernel, by decide +kernel⟩
abbrev s__are_users : Stmt := top 17
abbrev N__are_users : List Str := ["value", "name"]
theorem sc__are_users : FnScope N__are_users ["value"] (defScope s__are_users) := ⟨rfl, rfl, rfl, by decide +kernel, rfl, by decide +kernel, by decide +kernel⟩
abbrev s__are_groups : Stmt := top 18
abbrev N__are_groups : List Str := ["value", "name"]
theorem sc__are_groups : FnScope N__are_groups ["value"] (defScope s__are_groups) := ⟨rfl, rfl, rfl, by decide +kernel, rfl, by decide +kernel, by decide +kernel⟩
abbrev s_cell : Stmt := top 20
abbrev N_cell : List Str := ["_law_script", "_law_k"]
theorem sc_cell : FnScope N_cell ["_law_script", "_law_k"] (defScope s_cell) := ⟨rfl, rfl, rfl, by decide +kernel, rfl, by decide +kernel, by decide +kernel⟩
abbrev s_bag : Stmt := top 21
abbrev N_bag : List Str := ["_law_number"]
theorem sc_bag : FnScope N_bag ["_law_number"] (defScope s_bag) := ⟨rfl, rfl, rfl, by decide +kernel, rfl, by decide +kernel, by decide +kernel⟩
abbrev s_take : Stmt := top 22
abbrev N_take : List Str := ["_law_bag_here", "_law_count", "_law_digit", "_law_mixed"]
theorem sc_take : FnScope N_take ["_law_bag_here", "_law_count"] (defScope s_take) := ⟨rfl, rfl, rfl, by decide +kernel, rfl, by decide +kernel, by decide +kernel⟩
abbrev s_good : Stmt := top 23
abbrev N_good : List Str := ["_law_bag_here", "_law_letters", "_law_first", "_law_users", "_law_groups", "_law_found", "_law_user", "_law_start", "_law_k"]
theorem sc_good : FnScope N_good ["_law_bag_here"] (defScope s_good) := ⟨rfl, rfl, rfl, by decide +kernel, rfl, by decide +kernel, by decide +kernel⟩
abbrev s_bad_groups : Stmt := top 24
abbrev N_bad_groups : List Str := ["_law_bag_here", "_law_groups", "_law_odd", "_law_at", "_law_some"]
theorem sc_bad_groups : FnScope N_bad_groups ["_law_bag_here", "_law_groups"] (defScope s_bad_groups) := ⟨rfl, rfl, rfl, by decide +kernel, rfl, by decide +kernel, by decide +kernel⟩
abbrev s_l_is_name : Stmt := top 25
abbrev N_l_is_name : List Str := ["_law_thing", "_law_sign"]
theorem sc_l_is_name : FnScope N_l_is_name ["_law_thing"] (defScope s_l_is_name) := ⟨rfl, rfl, rfl, by decide +kernel, rfl, by decide +kernel, by decide +kernel⟩
abbrev s_due : Stmt := top 26
abbrev N_due : List Str := ["_law_members", "_law_every", "_law_user", "_law_value", "_law_key", "_law_name"]
theorem sc_due : FnScope N_due ["_law_members"] (defScope s_due) := ⟨rfl, rfl, rfl, by decide +kernel, rfl, by decide +kernel, by decide +kernel⟩
abbrev s_tried : Stmt := top 27
abbrev N_tried : List Str := ["_law_members", "e"]
theorem sc_tried : FnScope N_tried ["_law_members"] (defScope s_tried) := ⟨rfl, rfl, rfl, by decide +kernel, rfl, by decide +kernel, by decide +kernel⟩
abbrev s_spoilt : Stmt := top 28
abbrev N_spoilt : List Str := ["_law_bag_here", "_law_members", "_law_found", "_law_whole", "_law_turn", "_law_way", "_law_user", "_law_many", "_law_groups", "_law_k"]
theorem sc_spoilt : FnScope N_spoilt ["_law_bag_here", "_law_members"] (defScope s_spoilt) := ⟨rfl, rfl, rfl, by decide +kernel, rfl, by decide +kernel, by decide +kernel⟩
abbrev s_named : Stmt := top 29
abbrev N_named : List Str := ["_law_people", "_law_way", "_law_name", "e"]
theorem sc_named : FnScope N_named ["_law_people", "_law_way", "_law_name"] (defScope s_named) := ⟨rfl, rfl, rfl, by decide +kernel, rfl, by decide +kernel, by decide +kernel⟩
abbrev s_law : Stmt := top 30
abbrev N_law : List Str := ["_law_script", "_law_k", "_law_bag_here", "_law_members", "_law_spoilt_here", "_law_kept", "_law_due_here", "_law_people", "_law_name", "_law_way", "_law_band", "_law_first"]
theorem sc_law : FnScope N_law ["_law_script"] (defScope s_law) := ⟨rfl, rfl, rfl, by decide +kernel, rfl, by decide +kernel, by decide +kernel⟩
abbrev s_People___init__ : Stmt := inCls (top 16) 0
abbrev N_People___init__ : List Str := ["self", "members", "user", "group"]
theorem sc_People___init__ : FnScope N_People___init__ ["self", "members"] (defScope s_People___init__) := ⟨rfl, rfl, rfl, by decide +kernel, rfl, by decide +kernel, by decide +kernel⟩
abbrev s_People_users : Stmt := inCls (top 16) 1
abbrev N_People_users : List Str := ["self"]
theorem sc_People_users : FnScope N_People_users ["self"] (defScope s_People_users) := ⟨rfl, rfl, rfl, by decide +kernel, rfl, by decide +kernel, by decide +kernel⟩
abbrev s_People_groups : Stmt := inCls (top 16) 2
abbrev N_People_groups : List Str := ["self"]
theorem sc_People_groups : FnScope N_People_groups ["self"] (defScope s_People_groups) := ⟨rfl, rfl, rfl, by decide +kernel, rfl, by decide +kernel, by decide +kernel⟩
abbrev s_People_groups_of : Stmt := inCls (top 16) 3
abbrev N_People_groups_of : List Str := ["self", "user"]
theorem sc_People_groups_of : FnScope N_People_groups_of ["self", "user"] (defScope s_People_groups_of) := ⟨rfl, rfl, rfl, by decide +kernel, rfl, by decide +kernel, by decide +kernel⟩
abbrev s_People_first_group : Stmt := inCls (top 16) 4
abbrev N_People_first_group : List Str := ["self", "user"]
theorem sc_People_first_group : FnScope N_People_first_group ["self", "user"] (defScope s_People_first_group) := ⟨rfl, rfl, rfl, by decide +kernel, rfl, by decide +kernel, by decide +kernel⟩
abbrev s_People_members : Stmt := inCls (top 16) 5
abbrev N_People_members : List Str := ["self", "group", "user"]
theorem sc_People_members : FnScope N_People_members ["self", "group"] (defScope s_People_members) := ⟨rfl, rfl, rfl, by decide +kernel, rfl, by decide +kernel, by decide +kernel⟩
abbrev s_People___contains__ : Stmt := inCls (top 16) 6
abbrev N_People___contains__ : List Str := ["self", "value"]
theorem sc_People___contains__ : FnScope N_People___contains__ ["self", "value"] (defScope s_People___contains__) := ⟨rfl, rfl, rfl, by decide +kernel, rfl, by decide +kernel, by decide +kernel⟩
abbrev s_People___len__ : Stmt := inCls (top 16) 7
abbrev N_People___len__ : List Str := ["self"]
theorem sc_People___len__ : FnScope N_People___len__ ["self"] (defScope s_People___len__) := ⟨rfl, rfl, rfl, by decide +kernel, rfl, by decide +kernel, by decide +kernel⟩
abbrev s_People___eq__ : Stmt := inCls (top 16) 8
abbrev N_People___eq__ : List Str := ["self", "other"]
theorem sc_People___eq__ : FnScope N_People___eq__ ["self", "other"] (defScope s_People___eq__) := ⟨rfl, rfl, rfl, by decide +kernel, rfl, by decide +kernel, by decide +kernel⟩
abbrev s_People___repr__ : Stmt := inCls (top 16) 9
abbrev N_People___repr__ : List Str := ["self"]
theorem sc_People___repr__ : FnScope N_People___repr__ ["self"] (defScope s_People___repr__) := ⟨rfl, rfl, rfl, by decide +kernel, rfl, by decide +kernel, by decide +kernel⟩
structure Ads where
  f_is_name : Addr
  d_is_name : FuncData
  f_is_user_name : Addr
  d_is_user_name : FuncData
  f_is_list : Addr
  d_is_list : FuncData
  f__are_users : Addr
  d__are_users : FuncData
  f__are_groups : Addr
  d__are_groups : FuncData
  f_cell : Addr
  d_cell : FuncData
  f_bag : Addr
  d_bag : FuncData
  f_take : Addr
  d_take : FuncData
  f_good : Addr
  d_good : FuncData
  f_bad_groups : Addr
  d_bad_groups : FuncData
  f_l_is_name : Addr
  d_l_is_name : FuncData
  f_due : Addr
  d_due : FuncData
  f_tried : Addr
  d_tried : FuncData
  f_spoilt : Addr
  d_spoilt : FuncData
  f_named : Addr
  d_named : FuncData
  f_law : Addr
  d_law : FuncData
  f_People___init__ : Addr
  d_People___init__ : FuncData
  f_People_groups : Addr
  d_People_groups : FuncData
  f_People_groups_of : Addr
  d_People_groups_of : FuncData
  f_People_first_group : Addr
  d_People_first_group : FuncData
  f_People_members : Addr
  d_People_members : FuncData
  f_People___contains__ : Addr
  d_People___contains__ : FuncData
  C_People : Addr
  C_InvalidPeople : Addr
  C_TooMany : Addr
  C_UnknownUser : Addr
  C_UnknownGroup : Addr
  C_RightsError : Addr
  C_MissingError : Addr
  C_RefusedError : Addr
  I_InvalidPeople : Addr
  I_TooMany : Addr
  I_UnknownUser : Addr
  I_UnknownGroup : Addr
structure Txt (K : PySem.W.Frag) (mg : Str → Option Value) (A : Ads) : Prop where
  F_is_name : Fun K "is_name" "is_name" s_is_name A.f_is_name A.d_is_name
  B_is_name : Binds K A.d_is_name ["value"] []
  g_is_name : mg "is_name" = some (.ref A.f_is_name)
  F_is_user_name : Fun K "is_user_name" "is_user_name" s_is_user_name A.f_is_user_name A.d_is_user_name
  B_is_user_name : Binds K A.d_is_user_name ["value"] []
  g_is_user_name : mg "is_user_name" = some (.ref A.f_is_user_name)
  F_is_list : Fun K "is_list" "is_list" s_is_list A.f_is_list A.d_is_list
  B_is_list : Binds K A.d_is_list ["value"] []
  g_is_list : mg "is_list" = some (.ref A.f_is_list)
  F__are_users : Fun K "_are_users" "_are_users" s__are_users A.f__are_users A.d__are_users
  B__are_users : Binds K A.d__are_users ["value"] []
  g__are_users : mg "_are_users" = some (.ref A.f__are_users)
  F__are_groups : Fun K "_are_groups" "_are_groups" s__are_groups A.f__are_groups A.d__are_groups
  B__are_groups : Binds K A.d__are_groups ["value"] []
  g__are_groups : mg "_are_groups" = some (.ref A.f__are_groups)
  F_cell : Fun K "_law_cell" "_law_cell" s_cell A.f_cell A.d_cell
  B_cell : Binds K A.d_cell ["_law_script", "_law_k"] []
  g_cell : mg "_law_cell" = some (.ref A.f_cell)
  F_bag : Fun K "_law_bag" "_law_bag" s_bag A.f_bag A.d_bag
  B_bag : Binds K A.d_bag ["_law_number"] []
  g_bag : mg "_law_bag" = some (.ref A.f_bag)
  F_take : Fun K "_law_take" "_law_take" s_take A.f_take A.d_take
  B_take : Binds K A.d_take ["_law_bag_here", "_law_count"] []
  g_take : mg "_law_take" = some (.ref A.f_take)
  F_good : Fun K "_law_good" "_law_good" s_good A.f_good A.d_good
  B_good : Binds K A.d_good ["_law_bag_here"] []
  g_good : mg "_law_good" = some (.ref A.f_good)
  F_bad_groups : Fun K "_law_bad_groups" "_law_bad_groups" s_bad_groups A.f_bad_groups A.d_bad_groups
  B_bad_groups : Binds K A.d_bad_groups ["_law_bag_here", "_law_groups"] []
  g_bad_groups : mg "_law_bad_groups" = some (.ref A.f_bad_groups)
  F_l_is_name : Fun K "_law_is_name" "_law_is_name" s_l_is_name A.f_l_is_name A.d_l_is_name
  B_l_is_name : Binds K A.d_l_is_name ["_law_thing"] []
  g_l_is_name : mg "_law_is_name" = some (.ref A.f_l_is_name)
  F_due : Fun K "_law_due" "_law_due" s_due A.f_due A.d_due
  B_due : Binds K A.d_due ["_law_members"] []
  g_due : mg "_law_due" = some (.ref A.f_due)
  F_tried : Fun K "_law_tried" "_law_tried" s_tried A.f_tried A.d_tried
  B_tried : Binds K A.d_tried ["_law_members"] []
  g_tried : mg "_law_tried" = some (.ref A.f_tried)
  F_spoilt : Fun K "_law_spoilt" "_law_spoilt" s_spoilt A.f_spoilt A.d_spoilt
  B_spoilt : Binds K A.d_spoilt ["_law_bag_here", "_law_members"] []
  g_spoilt : mg "_law_spoilt" = some (.ref A.f_spoilt)
  F_named : Fun K "_law_named" "_law_named" s_named A.f_named A.d_named
  B_named : Binds K A.d_named ["_law_people", "_law_way", "_law_name"] []
  g_named : mg "_law_named" = some (.ref A.f_named)
  F_law : Fun K "law" "law" s_law A.f_law A.d_law
  B_law : Binds K A.d_law ["_law_script"] []
  g_law : mg "law" = some (.ref A.f_law)
  F_People___init__ : Fun K "__init__" "People.__init__" s_People___init__ A.f_People___init__ A.d_People___init__
  B_People___init__ : Binds K A.d_People___init__ ["self", "members"] []
  me_People___init__ : Meth K A.C_People "__init__" A.f_People___init__
  F_People_groups : Fun K "groups" "People.groups" s_People_groups A.f_People_groups A.d_People_groups
  B_People_groups : Binds K A.d_People_groups ["self"] []
  me_People_groups : Meth K A.C_People "groups" A.f_People_groups
  F_People_groups_of : Fun K "groups_of" "People.groups_of" s_People_groups_of A.f_People_groups_of A.d_People_groups_of
  B_People_groups_of : Binds K A.d_People_groups_of ["self", "user"] []
  me_People_groups_of : Meth K A.C_People "groups_of" A.f_People_groups_of
  F_People_first_group : Fun K "first_group" "People.first_group" s_People_first_group A.f_People_first_group A.d_People_first_group
  B_People_first_group : Binds K A.d_People_first_group ["self", "user"] []
  me_People_first_group : Meth K A.C_People "first_group" A.f_People_first_group
  F_People_members : Fun K "members" "People.members" s_People_members A.f_People_members A.d_People_members
  B_People_members : Binds K A.d_People_members ["self", "group"] []
  me_People_members : Meth K A.C_People "members" A.f_People_members
  F_People___contains__ : Fun K "__contains__" "People.__contains__" s_People___contains__ A.f_People___contains__ A.d_People___contains__
  B_People___contains__ : Binds K A.d_People___contains__ ["self", "value"] []
  me_People___contains__ : Meth K A.C_People "__contains__" A.f_People___contains__
  gC_People : mg "People" = some (.ref A.C_People)
  c_People : ∃ u, mg "People" = some u ∧ RelV (.ref A.C_People) u
  cl_People : Cls K A.C_People
  mk_People : Mk K A.C_People A.f_People___init__
  in_People : C8.InsC K A.C_People
  sf_People : PySem.W.selfFirst K A.C_People = true
  cd_People : ∃ cd, PySem.W.clsIn K A.C_People = some cd ∧ cd.mro = [.ref A.C_People, .type "object"]
  ne_People : PySem.W.findIn K (.ref A.C_People) "__ne__" = some (some (.builtin "object.__ne__"))
  na_People__held : NoAttr K A.C_People "_held"
  na_People__groups : NoAttr K A.C_People "_groups"
  nf_People_dict : PySem.W.notFirst K A.C_People (.type "dict") = true
  kt_People_dict : PySem.W.kitOne K (.type "dict") (.ref A.C_People) = some false
  nf_People_int : PySem.W.notFirst K A.C_People (.type "int") = true
  kt_People_int : PySem.W.kitOne K (.type "int") (.ref A.C_People) = some false
  sb_People_dict : PySem.W.subIn K (.type "dict") (.ref A.C_People) = some false
  sb_People_int : PySem.W.subIn K (.type "int") (.ref A.C_People) = some false
  c_InvalidPeople : ∃ u, mg "InvalidPeople" = some u ∧ RelV (.ref A.C_InvalidPeople) u
  c_TooMany : ∃ u, mg "TooMany" = some u ∧ RelV (.ref A.C_TooMany) u
  c_UnknownUser : ∃ u, mg "UnknownUser" = some u ∧ RelV (.ref A.C_UnknownUser) u
  c_UnknownGroup : ∃ u, mg "UnknownGroup" = some u ∧ RelV (.ref A.C_UnknownGroup) u
  c_RightsError : ∃ u, mg "RightsError" = some u ∧ RelV (.ref A.C_RightsError) u
  c_MissingError : ∃ u, mg "MissingError" = some u ∧ RelV (.ref A.C_MissingError) u
  c_RefusedError : ∃ u, mg "RefusedError" = some u ∧ RelV (.ref A.C_RefusedError) u
  low_InvalidPeople : PySem.ExV.LowTxt K mg "InvalidPeople" "InvalidPeople.__init__" A.C_InvalidPeople A.I_InvalidPeople
  ec_InvalidPeople : ExcC K A.C_InvalidPeople
  low_TooMany : PySem.ExVc.CntTxt K mg "TooMany" "TooMany.__init__" A.C_TooMany A.I_TooMany
  ec_TooMany : ExcC K A.C_TooMany
  low_UnknownUser : PySem.ExN.NamTxt K mg "UnknownUser" "UnknownUser.__init__" A.C_UnknownUser A.I_UnknownUser
  ec_UnknownUser : ExcC K A.C_UnknownUser
  low_UnknownGroup : PySem.ExN.NamTxt K mg "UnknownGroup" "UnknownGroup.__init__" A.C_UnknownGroup A.I_UnknownGroup
  ec_UnknownGroup : ExcC K A.C_UnknownGroup
  kit_InvalidPeople_RightsError : PySem.W.kitOne K (.ref A.C_InvalidPeople) (.ref A.C_RightsError) = some true
  kit_InvalidPeople_MissingError : PySem.W.kitOne K (.ref A.C_InvalidPeople) (.ref A.C_MissingError) = some false
  kit_InvalidPeople_TooMany : PySem.W.kitOne K (.ref A.C_InvalidPeople) (.ref A.C_TooMany) = some false
  kit_TooMany_RightsError : PySem.W.kitOne K (.ref A.C_TooMany) (.ref A.C_RightsError) = some true
  kit_TooMany_RefusedError : PySem.W.kitOne K (.ref A.C_TooMany) (.ref A.C_RefusedError) = some false
  kit_UnknownUser_MissingError : PySem.W.kitOne K (.ref A.C_UnknownUser) (.ref A.C_MissingError) = some true
  kit_UnknownUser_UnknownGroup : PySem.W.kitOne K (.ref A.C_UnknownUser) (.ref A.C_UnknownGroup) = some false
  kit_UnknownGroup_MissingError : PySem.W.kitOne K (.ref A.C_UnknownGroup) (.ref A.C_MissingError) = some true
  kit_UnknownGroup_RightsError : PySem.W.kitOne K (.ref A.C_UnknownGroup) (.ref A.C_RightsError) = some false
  exm_TooMany_InvalidPeople : PySem.W.exmOne K (.ref A.C_TooMany) (.ref A.C_InvalidPeople) = some false
  exm_UnknownGroup_UnknownUser : PySem.W.exmOne K (.ref A.C_UnknownGroup) (.ref A.C_UnknownUser) = some false
  c_LONGEST_NAME : ∃ u, mg "LONGEST_NAME" = some u ∧ RelV (.int 8) u
  c_MOST_USERS : ∃ u, mg "MOST_USERS" = some u ∧ RelV (.int 6) u
  c_MOST_GROUPS : ∃ u, mg "MOST_GROUPS" = some u ∧ RelV (.int 6) u
  b_all : mg "all" = none
  b_dict : mg "dict" = none
  b_isinstance : mg "isinstance" = none
  b_len : mg "len" = none
  b_list : mg "list" = none
  b_max : mg "max" = none
  b_min : mg "min" = none
  b_range : mg "range" = none
  b_repr : mg "repr" = none
  b_set : mg "set" = none
  b_sorted : mg "sorted" = none
  b_str : mg "str" = none
  b_tuple : mg "tuple" = none


end K24
namespace K24
open PySem PySem.Spec PyProof.Rows L2 FR TL
open C8 (pss_cut pe_gc)
open StX (pe_callS2 pa_star)
/-! ### the things that are handed in -/
inductive OddS (H : Hp) : V → PyData → Prop
  | non : OddS H .non .none
  | bl (b : Bool) : OddS H (.bl b) (.bool b)
  | int (i : Int) : OddS H (.int i) (.int i)
  | str (s : Str) : OddS H (.str s) (.str s)
  | lst {a : Addr} {ws : List Str} : H a = some (.lst (ws.map V.str)) → sysModules < a → OddS H (.ref a) (.list (ws.map .str))
  | tup {a : Addr} {ws : List Str} : H a = some (.tup (ws.map V.str)) → OddS H (.ref a) (.tuple (ws.map .str))
  | dc0 {a : Addr} : H a = some (.dK []) → OddS H (.ref a) (.dict [])
def isDc : PyData → Bool | .dict _ => true | _ => false
def okB (e : PyData) : Bool := e.showable && decide (e.depth ≤ 1) && e.leavesShort 40 && decide (e.weight ≤ 200) && (SeqAt.shaped e || isDc e)
structure Odd (H : Hp) (v : V) (e : PyData) : Prop where
  s : OddS H v e
  b : okB e = true
theorem Odd.keepA {H H' : Hp} {v : V} {e : PyData} (h : Odd H v e) (k : ∀ a o, v = .ref a → H a = some o → H' a = some o) : Odd H' v e := by
  obtain ⟨h, ob⟩ := h
  refine ⟨?_, ob⟩
  cases h with
  | non => exact .non
  | bl b => exact .bl b
  | int i => exact .int i
  | str s => exact .str s
  | lst e b => exact .lst (k _ _ rfl e) b
  | tup e => exact .tup (k _ _ rfl e)
  | dc0 e => exact .dc0 (k _ _ rfl e)
theorem Odd.keep {H H' : Hp} {v : V} {e : PyData} (h : Odd H v e) (k : Keep [] H H') : Odd H' v e := h.keepA fun a o _ q => k a o q (by simp)
theorem Odd.keepb {H H' : Hp} {v : V} {e : PyData} {b : Addr} {x y z : Int} (h : Odd H v e) (hb : H b = some (bagO x y z)) (k : Keep [b] H H') : Odd H' v e := h.keepA fun a o ev q => k a o q (by
  intro m
  have m' : a = b := by simpa using m
  subst m'
  rw [hb] at q
  cases q
  subst ev
  obtain ⟨hs, _⟩ := h
  cases hs with
  | @lst _ ws e _ =>
    rw [hb] at e
    have q2 := congrArg (fun o => match o with | some (.lst (.int i :: _)) => true | _ => false) e
    cases ws <;> cases q2
  | tup e => rw [hb] at e; cases e
  | dc0 e => rw [hb] at e; cases e)
def tyN : PyData → String
  | .none => "NoneType"
  | .bool _ => "bool"
  | .int _ => "int"
  | .str _ => "str"
  | .list _ => "list"
  | .tuple _ => "tuple"
  | .dict _ => "dict"
theorem Odd.ty {K : PySem.W.Frag} {H : Hp} {v : V} {e : PyData} (h : Odd H v e) : TyX K H v (.type (tyN e)) := by
  obtain ⟨h, _⟩ := h
  cases h with
  | non => exact .base .non
  | bl b => exact .base (.bl b)
  | int i => exact .base (.int i)
  | str s => exact .base (.str s)
  | lst a _ => exact .base (.lst a)
  | tup a => exact .base (.tup a)
  | dc0 a => exact .base (.dK a)
def isS : PyData → Bool | .str _ => true | _ => false
theorem kit_str (e : PyData) : kitB (tyN e) "str" = some (isS e) := by
  cases e
  case none => exact (by decide +kernel : kitB "NoneType" "str" = some false)
  case bool => exact (by decide +kernel : kitB "bool" "str" = some false)
  case int => exact (by decide +kernel : kitB "int" "str" = some false)
  case str => exact (by decide +kernel : kitB "str" "str" = some true)
  case list => exact (by decide +kernel : kitB "list" "str" = some false)
  case tuple => exact (by decide +kernel : kitB "tuple" "str" = some false)
  case dict => exact (by decide +kernel : kitB "dict" "str" = some false)
structure Fine (d : PyData) (n : Nat) : Prop where
  s : d.showable = true
  dp : d.depth ≤ n
  ls : d.leavesShort 40 = true
  wt : d.weight ≤ 1000
theorem Fine.all {d : PyData} (h : Fine d 50) : d.showable = true ∧ d.depth ≤ 50 ∧ d.shown.length ≤ sizeLine :=
  ⟨h.s, h.dp, size_le (by have h1 := PyData.shown_le 40 (by decide) d h.ls; have h2 := h.wt; have h3 := Nat.mul_le_mul_left (40 + 2) h2; omega)⟩
theorem okB_all {e : PyData} (h : okB e = true) : e.showable = true ∧ e.depth ≤ 1 ∧ e.leavesShort 40 = true ∧ e.weight ≤ 200 ∧ (SeqAt.shaped e || isDc e) = true := by
  unfold okB at h
  simp only [Bool.and_eq_true, decide_eq_true_eq] at h
  exact ⟨h.1.1.1.1, h.1.1.1.2, h.1.1.2, h.1.2, h.2⟩
theorem dq_strs {H : Hp} : ∀ ws : List Str, DqAll H (ws.map V.str) (ws.map .str)
  | [] => .nil
  | s :: r => .cons (.str s) (dq_strs r)
theorem Odd.dq {H : Hp} {v : V} {e : PyData} (h : Odd H v e) : Dq H v e := by
  obtain ⟨h, _⟩ := h
  cases h with
  | non => exact .non
  | bl b => exact .bl b
  | int i => exact .int i
  | str s => exact .str s
  | lst h1 h2 => exact .lst h1 h2 (dq_strs _)
  | tup h1 => exact .tup h1 (dq_strs _)
  | dc0 h1 => exact .dct h1 .nil
/-- a list of a word, a thing and true -/
theorem Odd.tri {H : Hp} {v : V} {e : PyData} {s : Str} {p : Addr} (h : Odd H v e) (hs : okB (.str s) = true) (hp : H p = some (.lst [.str s, v, .bl true])) (hsp : sysModules < p) :
    Dq H (.ref p) (.list [.str s, e, .bool true]) ∧ (PyData.list [.str s, e, .bool true]).showable = true ∧ (PyData.list [.str s, e, .bool true]).depth ≤ 50 ∧ (PyData.list [.str s, e, .bool true]).shown.length ≤ sizeLine := by
  obtain ⟨a1, a2, a3, a4, _⟩ := okB_all h.b
  obtain ⟨b1, b2, b3, b4, _⟩ := okB_all hs
  refine ⟨.lst hp hsp (.cons (.str s) (.cons h.dq (.cons (.bl true) .nil))), Fine.all ⟨?_, ?_, ?_, ?_⟩⟩
  · simp only [PyData.showable, PyData.showableAll, a1, Bool.and_self]
  · simp only [PyData.depth, PyData.depthAll]
    omega
  · simp only [PyData.leavesShort, PyData.leavesShortAll, a3, Bool.and_self, Bool.true_and, Bool.and_true]
    simpa [PyData.leavesShort] using b3
  · simp only [PyData.weight, PyData.weightAll] at *
    omega
/-! ### a thing beside a text and among texts -/
theorem Odd.dp {K : PySem.W.Frag} {H : Hp} {v : V} {e : PyData} (h : Odd H v e) : (Dp K H v e ∧ ∀ kvs, e ≠ .dict kvs) ∨ ∃ a, v = .ref a ∧ H a = some (.dK []) := by
  obtain ⟨h, _⟩ := h
  cases h with
  | non => exact .inl ⟨.non, fun _ z => by cases z⟩
  | bl b => exact .inl ⟨.bl b, fun _ z => by cases z⟩
  | int i => exact .inl ⟨.int i, fun _ z => by cases z⟩
  | str s => exact .inl ⟨.str s, fun _ z => by cases z⟩
  | lst h1 h2 => exact .inl ⟨.lst (.inl (.inl h1)) (dpAll_strs _), fun _ z => by cases z⟩
  | tup h1 => exact .inl ⟨.tup (.inl (.of h1)) (dpAll_strs _), fun _ z => by cases z⟩
  | dc0 h1 => exact .inr ⟨_, rfl, h1⟩
theorem str_eqv (a b : Str) : PyData.eqv (.str a) (.str b) = decide (a = b) := by
  show (a == b) = _
  by_cases c : a = b
  · rw [decide_eq_true c]; exact beq_iff_eq.mpr c
  · rw [decide_eq_false c]; exact beq_eq_false_iff_ne.mpr c
theorem sh_of {e : PyData} (h : okB e = true) (nd : ∀ kvs, e ≠ .dict kvs) : SeqAt.shaped e = true := by
  rcases Bool.or_eq_true_iff.mp (okB_all h).2.2.2.2 with h | h
  · exact h
  · cases e with
    | dict kvs => exact absurd rfl (nd kvs)
    | _ => cases h
/-- the text that a thing is -/
def isT (v : V) (b : Str) : Bool := decide (v = .str b)
theorem Odd.eqt {K : PySem.W.Frag} {H : Hp} {v : V} {e : PyData} (h : Odd H v e) {b : Str} (hb : SeqAt.shaped (.str b) = true) : EqT K H v b (isT v b) := by
  obtain ⟨hs, hB⟩ := id h
  rcases h.dp (K := K) with ⟨hd, nd⟩ | ⟨a, rfl, ha⟩
  · refine .inl ⟨e, hd, sh_of hB nd, hb, ?_⟩
    cases hs with
    | str s => rw [str_eqv]; exact decide_eq_decide.mpr ⟨fun z => by rw [z], fun z => V.str.inj z⟩
    | dc0 _ => exact absurd rfl (nd _)
    | _ => exact (decide_eq_false fun z => by cases z).symm
  · exact .inr ⟨a, _, rfl, ha, (decide_eq_false fun z => by cases z).symm⟩
theorem Odd.int {K : PySem.W.Frag} {H : Hp} {v : V} {e : PyData} (h : Odd H v e) {ws : List Str} (hw : SeqAt.shaped (.list (ws.map .str)) = true) : InT K H v ws (ws.any fun b => isT v b) := by
  obtain ⟨hs, hB⟩ := id h
  rcases h.dp (K := K) with ⟨hd, nd⟩ | ⟨a, rfl, ha⟩
  · refine .inr (.inl ⟨e, hd, sh_of hB nd, hw, ?_⟩)
    rw [List.any_map]
    congr 1
    funext b
    show PyData.eqv (.str b) e = _
    cases hs with
    | str s => rw [str_eqv]; exact decide_eq_decide.mpr ⟨fun z => by rw [z], fun z => (V.str.inj z).symm⟩
    | dc0 _ => exact absurd rfl (nd _)
    | _ => exact (decide_eq_false fun z => by cases z).symm
  · refine .inr (.inr ⟨a, _, rfl, ha, ?_⟩)
    rw [eq_comm, List.any_eq_false]
    exact fun b _ => by rw [isT, decide_eq_false fun z => by cases z]; exact Bool.false_ne_true
end K24
namespace K24
open PySem PySem.Spec PyProof.Rows L2 FR TL
open C8 (pss_cut pe_gc)
open StX (pe_callS2 pa_star)
/-- a word's name: one to eight small letters -/
def nm (s : Str) : Bool := decide (s ≠ Str.ofString "" ∧ s.length ≤ 8) && (tl s).all lc
theorem alpha_lc : ∀ c : Fin 128, Unicode.isAlpha c.1 = true → (Unicode.isUpper c.1 || Unicode.isTitle c.1) = false → lc c.1 = true := by decide +kernel
theorem empty_iff (s : Str) : s = Str.ofString "" ↔ tl s = [] := ⟨fun h => by rw [h]; decide +kernel, fun h => ext_tl (by rw [h]; decide +kernel)⟩
theorem name_eq {s : Str} (a : Asc s) : (Txt.isalpha s && Txt.islower s) = (decide (s ≠ Str.ofString "") && (tl s).all lc) := by
  show ((decide (s.length > 0) && s.cps.all Unicode.isAlpha) && (s.cps.any Unicode.isLower && !s.cps.any fun c => Unicode.isUpper c || Unicode.isTitle c)) = _
  rw [all_tl, any_tl, any_tl, len_tl, show decide (s ≠ Str.ofString "") = decide (tl s ≠ []) from decide_eq_decide.mpr (not_congr (empty_iff s))]
  have ha := a
  unfold Asc at ha
  generalize tl s = l at ha
  rw [Bool.eq_iff_iff]
  simp only [Bool.and_eq_true, decide_eq_true_eq, List.all_eq_true, List.any_eq_true, Bool.not_eq_true', List.any_eq_false]
  constructor
  · rintro ⟨⟨h0, h1⟩, _, h3⟩
    exact ⟨fun e => by subst e; simp at h0, fun c hc => alpha_lc ⟨c, ha c hc⟩ (h1 c hc) (by simpa using h3 c hc)⟩
  · rintro ⟨h0, h1⟩
    refine ⟨⟨List.length_pos_iff.mpr h0, fun c hc => (lc_alpha ⟨c, ha c hc⟩ (h1 c hc)).1⟩, ?_, fun c hc => by have := (lc_alpha ⟨c, ha c hc⟩ (h1 c hc)).2.2; simpa using this⟩
    obtain ⟨c, hc⟩ := List.exists_mem_of_ne_nil _ h0
    exact ⟨c, hc, (lc_alpha ⟨c, ha c hc⟩ (h1 c hc)).2.1⟩
section
variable {P : Program} {w : World} {K : PySem.W.Frag} {mg : Str → Option Value} {base : Heap} {A : Ads}
set_option pp.maxSteps 120
def Us (s : Str) : Prop := Nm s ∧ s ≠ Str.ofString "root"
def Uss (xs : List Str) : Prop := ∀ x ∈ xs, Us x
/-- no name -/
def nmB : PyData → Bool
  | .str s => nm s
  | _ => false
def ascB : PyData → Bool
  | .str s => (tl s).all fun c => decide (c < 128)
  | _ => true
theorem ascB_of {s : Str} (h : ascB (.str s) = true) : Asc s := fun c hc => of_decide_eq_true (List.all_eq_true.mp h c hc)
theorem okB_len {s : Str} (h : okB (.str s) = true) : s.length ≤ 200 := by
  have := (okB_all h).2.2.2.1
  simp only [PyData.weight] at this
  have e : s.length = s.cps.size := rfl
  omega
theorem nm_of {s : Str} (n : Nm s) : nm s = true := by
  have l0 := n.l0
  unfold nm
  rw [Bool.and_eq_true, decide_eq_true_eq, List.all_eq_true]
  exact ⟨⟨fun e => by rw [e] at l0; exact absurd l0 (by decide +kernel), n.l1⟩, n.lo⟩
theorem Nm_of {s : Str} (h : nm s = true) : Nm s := by
  unfold nm at h
  rw [Bool.and_eq_true, decide_eq_true_eq, List.all_eq_true] at h
  refine ⟨?_, h.1.2, h.2⟩
  rw [len_tl]
  exact List.length_pos_iff.mpr fun e => h.1.1 ((empty_iff s).mpr e)
/-- a thing of any kind, its texts plain -/
structure Od (H : Hp) (v : V) (e : PyData) : Prop where
  o : Odd H v e
  a : ascB e = true
theorem Od.keep {H H' : Hp} {v : V} {e : PyData} (h : Od H v e) (k : Keep [] H H') : Od H' v e := ⟨h.o.keep k, h.a⟩
theorem ok_is_name (T : Txt K mg A) : FnOk P w K mg base CX0 1 A.f_is_name A.d_is_name ["value"] (fun vs H Q _ => ∃ v e, vs = [v] ∧ Od H v e ∧ Q (.bl (nmB e)) H) := by
  refine T.F_is_name.ok sc_is_name (fun vs H Q E h => ?_) (fun cdv A_ outer s_ H vs Q E hr h => ?_)
  · obtain ⟨v, e, rfl, _⟩ := h
    rfl
  · obtain ⟨v, e, rfl, ⟨he, ha⟩, q⟩ := h
    refine ⟨_, (pss_cons (ps_if (PW.pt (pw_or (pt_not (pt_val (pe_callB call_isi (by rfl) T.b_isinstance (by decide +kernel) (pa_cons (pv 0) (pa_cons (pe_bltn (v := .ty "str") rfl T.b_str (by decide +kernel) rfl) pa_nil))))) (pw_or1 (pt_cmpR op_gt (pe_callB call_len_str (by rfl) T.b_len PySem.boot_len (pa_cons (pv 0) pa_nil)) (pe_gc rfl T.c_LONGEST_NAME) (nomark _))))) (pss_one (ps_ret pe_bl)) pss_nil)
  (pss_one (ps_ret (pe_and (pe_bm0 PySem.F.plainAttrs_str PySem.F.slot_str_isascii PySem.F.type_str_isascii mt_isascii (pv 0)) (pe_and (pe_bm0 PySem.F.plainAttrs_str PySem.F.slot_str_isalpha PySem.F.type_str_isalpha mt_isalpha (pv 0)) (pe_one (pe_bm0 PySem.F.plainAttrs_str PySem.F.slot_str_islower PySem.F.type_str_islower mt_islower (pv 0)))))))), ?_⟩
    have two : (∃ s b, v = .str s ∧ s.length ≤ 200 ∧ Asc s ∧ nm s = b ∧ Q (.bl b) H) ∨ ∃ t, TyX K H v (.type t) ∧ kitB t "str" = some false ∧ Q (.bl false) H := by
      have hk := kit_str e
      have ty : TyX K H v (.type (tyN e)) := he.ty
      obtain ⟨hs, hB⟩ := id he
      cases hs with
      | str s => exact .inl ⟨s, nm s, rfl, okB_len hB, ascB_of ha, rfl, q⟩
      | _ => exact .inr ⟨_, ty, hk, q⟩
    rcases two with ⟨s, b, rfl, hl, ha, hb, q⟩ | ⟨t, ty, kt, q⟩
    · have hz : s.length ≤ sizeLine := size_le (by omega)
      have en := name_eq ha
      have ea := isascii_asc ha
      walk_at "rd"
      refine ifD (fun c => ?_) (fun c => ?_)
      · walk_at "rd"
        rw [← hb, show nm s = false by unfold nm; rw [decide_eq_false (fun h => by have := h.2; omega)]; rfl] at q
        exact q
      · walk_at "rd"
        have hn : nm s = (Txt.isalpha s && Txt.islower s) := by
          rw [en]
          unfold nm
          by_cases h : s = Str.ofString ""
          · rw [decide_eq_false (fun z => z.1 h), decide_eq_false (fun z => z h)]
          · rw [decide_eq_true ⟨h, by omega⟩, decide_eq_true h]
        rw [← hb, hn] at q
        refine ifT ea ?_
        walk_at "rd"
        refine ifB (fun c1 => ?_) (fun c1 => ?_)
        · rw [c1] at q
          walk_at "rd"
          exact q
        · rw [c1] at q
          exact q
    · walk_at "rd"
      refine ⟨_, _, _, _, _, rfl, .ty _, ty, kit_ty kt, ?_⟩
      walk_at "rd"
      exact q
def usD : PyData → Bool
  | .str s => nm s && decide (s ≠ Str.ofString "root")
  | _ => false
theorem ok_is_user_name (T : Txt K mg A) : FnOk P w K mg base CX0 2 A.f_is_user_name A.d_is_user_name ["value"] (fun vs H Q _ => ∃ v e, vs = [v] ∧ Od H v e ∧ Q (.bl (usD e)) H) := by
  refine T.F_is_user_name.ok sc_is_user_name (fun vs H Q E h => ?_) (fun cdv A_ outer s_ H vs Q E hr h => ?_)
  · obtain ⟨v, e, rfl, _⟩ := h
    rfl
  · obtain ⟨v, e, rfl, he, q⟩ := h
    refine ⟨_, (pss_one (ps_ret (pe_and (pe_call (ok_is_name T) (hr.mono (by decide)) (by rfl) T.g_is_name T.F_is_name.kp T.B_is_name .nil pass0 (pa_cons (pv 0) pa_nil)) (pe_one (pe_cmpR (op_neD hr.units) (pv 0) pe_str (nomark _)))))), ?_⟩
    walk_at "rd"
    refine ⟨v, e, rfl, he, _, rfl, ?_⟩
    cases hn : nmB e with
    | false =>
      refine ifF rfl ?_
      rw [show usD e = false by cases e <;> first | rfl | (show (nm _ && _) = false; rw [show nm _ = false from hn]; rfl)] at q
      exact q
    | true =>
      refine ifT rfl ?_
      obtain ⟨⟨hs, hB⟩, ha⟩ := he
      cases hs with
      | str s =>
        refine ⟨_, rfl, .str s, .str (Str.ofString "root"), .str s, .str _, sh_of hB (fun _ z => by cases z), by decide +kernel, ?_⟩
        rw [show usD (.str s) = (nm s && decide (s ≠ Str.ofString "root")) from rfl, show nm s = true from hn, Bool.true_and] at q
        rw [str_eqv]
        rw [show (!decide (s = Str.ofString "root")) = decide (s ≠ Str.ofString "root") by simp]
        exact q
      | _ => cases hn
theorem ok_take (T : Txt K mg A) : FnOk P w K mg base CX0 1 A.f_take A.d_take ["_law_bag_here", "_law_count"] spTake := by
  refine T.F_take.ok sc_take (fun vs H Q E h => ?_) (fun cdv A_ outer s H vs Q E hr h => ?_)
  · obtain ⟨b, k, n, x, y, z, rfl, _⟩ := h
    rfl
  · obtain ⟨b, k, n, x, y, z, rfl, hb, ok, hn, k0, k1, q⟩ := h
    have W := Ow.start1 hb
    have y0 := ok.y0; have y1 := ok.y1; have z0 := ok.z0; have z1 := ok.z1
    refine ⟨_, (pss_cons (ps_if (pt_cmpR op_gt (pe_ix ix_list (pv 0) pe_int (fun _ _ => rfl)) pe_int (nomark _)) (pss_cons (ps_set (i := 2) sc_take.nd rfl (.inl rfl) (pe_op op_mod (pe_ix ix_list (pv 0) pe_int (fun _ _ => rfl)) (pv 1)))
  (pss_cons (ps_asg (pe_op op_fdiv (pe_ix ix_list (pv 0) pe_int (fun _ _ => rfl)) (pv 1)) (pg_sub (pv 0) pe_int set_listN))
  (pss_one (ps_ret (pv 2))))) pss_nil)
  (pss_cons (ps_asg (pe_op op_add (pe_ix ix_list (pv 0) pe_int (fun _ _ => rfl)) pe_int) (pg_sub (pv 0) pe_int set_listN))
  (pss_cons (ps_set (i := 3) sc_take.nd rfl (.inl rfl) (pe_op op_mod (pe_op op_pow (pe_op op_add (pe_op op_add (pe_ix ix_list (pv 0) pe_int (fun _ _ => rfl)) (pe_op op_mul pe_int (pe_ix ix_list (pv 0) pe_int (fun _ _ => rfl)))) pe_int) pe_int) pe_int))
  (pss_cons (ps_set (i := 3) sc_take.nd rfl (.inl rfl) (pe_op op_mod (pe_op op_pow (pe_op op_add (pv 3) (pe_op op_mul pe_int (pe_ix ix_list (pv 0) pe_int (fun _ _ => rfl)))) pe_int) pe_int))
  (pss_one (ps_ret (pe_op op_mod (pe_op op_fdiv (pv 3) pe_int) (pv 1)))))))), ?_⟩
    walk_at "rd"
    refine ite2 (fun c => ?_) (fun c => ?_)
    · have c' : 0 < x := of_decide_eq_true c
      walk_at "rd"
      rename_i H1 kp hp W1
      exact q _ (x / k) y z H1 (Int.emod_nonneg _ (by omega)) (Int.emod_lt_of_pos _ k0) ⟨Int.ediv_nonneg ok.x0 (by omega), y0, y1, z0, by omega⟩ kp hp
    · walk_at "rd"
      rename_i H1 kp hp W1
      exact q _ x y (z + 1) H1 (Int.emod_nonneg _ (by omega)) (Int.emod_lt_of_pos _ k0) ⟨ok.x0, y0, y1, by omega, by omega⟩ kp hp
def spCell (K : PySem.W.Frag) : Sp := fun vs H Q _ => ∃ (a : Addr) (ns : List Int) (k : Int), vs = [.ref a, .int k] ∧ SqL K H a (ns.map V.int) ∧ 0 ≤ k ∧ k < 1000 ∧ ∀ n, Q (.int n) H
theorem ok_cell (T : Txt K mg A) : FnOk P w K mg base CX0 1 A.f_cell A.d_cell ["_law_script", "_law_k"] (spCell K) := by
  refine T.F_cell.ok sc_cell (fun vs H Q E h => ?_) (fun cdv A_ outer s H vs Q E hr h => ?_)
  · obtain ⟨a, ns, k, rfl, _⟩ := h
    rfl
  · obtain ⟨a, ns, k, rfl, hS, h0, hk, q⟩ := h
    obtain ⟨j, rfl⟩ := Int.eq_ofNat_of_zero_le h0
    refine ⟨_, (pss_cons (ps_if (pt_cmpR op_lt (pv 1) (pe_callB call_len_seq (by rfl) T.b_len PySem.boot_len (pa_cons (pv 0) pa_nil)) (nomark _)) (pss_one (ps_ret (pe_ix ix_list (pv 0) (pv 1) (fun _ _ => rfl)))) pss_nil)
  (pss_one (ps_ret (pe_op op_add (pe_op op_mul pe_int (pv 1)) pe_int)))), ?_⟩
    walk_at "rd"
    refine ifD (fun c => ?_) (fun c => ?_)
    · have c2 : j < ns.length := by rw [List.length_map] at c; omega
      refine ⟨_, rfl, _, rfl, _, _, _, .int ns[j], rfl, rfl, hS, atI_nat (by rw [List.getElem?_map, List.getElem?_eq_getElem c2]; rfl), q _⟩
    · walk_at "rd"
      exact q _
def spBag : Sp := fun vs H Q _ => ∃ n : Int, vs = [.int n] ∧ ∀ x y z, BagOk 0 x y z → NewO (bagO x y z) Q H
theorem ok_bag (T : Txt K mg A) : FnOk P w K mg base CX0 1 A.f_bag A.d_bag ["_law_number"] spBag := by
  refine T.F_bag.ok sc_bag (fun vs H Q E h => ?_) (fun cdv A_ outer s H vs Q E hr h => ?_)
  · obtain ⟨n, rfl, _⟩ := h
    rfl
  · obtain ⟨n, rfl, q⟩ := h
    have W : Ow H [] H [] := Ow.start0
    refine ⟨_, (pss_one (ps_ret (pe_lstS (pa_cons (pe_callB (call_max2 rfl) (by rfl) T.b_max (by decide +kernel) (pa_cons pe_int (pa_cons (pe_op op_sub (pv 0) (pe_op op_pow pe_int pe_int)) pa_nil))) (pa_cons (pe_op op_mod (pv 0) pe_int) (pa_cons pe_int pa_nil)))))), ?_⟩
    have q' := q (if n - 10 ^ 18 > 0 then n - 10 ^ 18 else 0) (n % 2147483629) 0 ⟨by split <;> omega, Int.emod_nonneg _ (by decide), Int.lt_trans (Int.emod_lt_of_pos _ (by decide)) (by decide), by omega, by omega⟩
    walk_at "rd"
    rename_i p H1 np sp kp hp W1
    exact q'.to p H1 np kp hp
end
end K24
namespace K24
open PySem PySem.Spec PyProof.Rows L2 FR TL
open C8 (pss_cut pe_gc)
open StX (pe_callS2 pa_star)
theorem upd_again {H : Hp} {a : Addr} {o o' : HO} : upd (upd H a o) a o' = upd H a o' := by
  funext b
  by_cases c : b = a
  · subst c; rw [upd_same, upd_same]
  · rw [upd_ne c, upd_ne c, upd_ne c]
/-- things in one order -/
def Ods (H : Hp) (vs : List V) (es : List PyData) : Prop := Paired (Od H) vs es
theorem Ods.keep {H H' : Hp} {vs : List V} {es : List PyData} (h : Ods H vs es) (k : Keep [] H H') : Ods H' vs es := Paired.mapP h fun _ _ r => r.keep k
/-- what stands for a user's groups -/
inductive GV (H : Hp) : V → PyData → Prop
  | lst {a : Addr} {vs : List V} {es : List PyData} : H a = some (.lst vs) → sysModules < a → Ods H vs es → es.length ≤ 20 → GV H (.ref a) (.list es)
  | tup {a : Addr} : H a = some (.tup []) → GV H (.ref a) (.tuple [])
  | non : GV H .non .none
  | str (s : Str) : GV H (.str s) (.str s)
  | int (i : Int) : GV H (.int i) (.int i)
  | dct {a : Addr} {kvs : List (L2.Key × V)} {ds : List (PyData × PyData)} : H a = some (.dK kvs) → DqKv H kvs ds → GV H (.ref a) (.dict ds)
theorem GV.ty {K : PySem.W.Frag} {H : Hp} {v : V} {e : PyData} (h : GV H v e) : TyX K H v (.type (tyN e)) := by
  cases h with
  | lst e _ _ _ => exact .base (.lst e)
  | tup e => exact .base (.tup e)
  | non => exact .base .non
  | str s => exact .base (.str s)
  | int i => exact .base (.int i)
  | dct e _ => exact .base (.dK e)
mutual
theorem Dq.keep {H H' : Hp} (k : Keep [] H H') : ∀ {v : V} {e : PyData}, Dq H v e → Dq H' v e
  | _, _, .non => .non
  | _, _, .bl b => .bl b
  | _, _, .int i => .int i
  | _, _, .str s => .str s
  | _, _, .lst h s d => .lst (k _ _ h (by simp)) s (DqAll.keep k d)
  | _, _, .tup h d => .tup (k _ _ h (by simp)) (DqAll.keep k d)
  | _, _, .dct h d => .dct (k _ _ h (by simp)) (DqKv.keep k d)
theorem DqAll.keep {H H' : Hp} (k : Keep [] H H') : ∀ {v : List V} {e : List PyData}, DqAll H v e → DqAll H' v e
  | _, _, .nil => .nil
  | _, _, .cons a b => .cons (Dq.keep k a) (DqAll.keep k b)
theorem DqKv.keep {H H' : Hp} (k : Keep [] H H') : ∀ {v : List (L2.Key × V)} {e : List (PyData × PyData)}, DqKv H v e → DqKv H' v e
  | _, _, .nil => .nil
  | _, _, .cons a b => .cons (Dq.keep k a) (DqKv.keep k b)
end
theorem GV.keep {H H' : Hp} {v : V} {e : PyData} (h : GV H v e) (k : Keep [] H H') : GV H' v e := by
  cases h with
  | lst h s o l => exact .lst (k _ _ h (by simp)) s (o.keep k) l
  | tup h => exact .tup (k _ _ h (by simp))
  | non => exact .non
  | str s => exact .str s
  | int i => exact .int i
  | dct h d => exact .dct (k _ _ h (by simp)) (K24.DqKv.keep k d)
def isSq : PyData → Bool
  | .list _ => true
  | .tuple _ => true
  | _ => false
/-- the texts of a list -/
def gtx (es : List PyData) : List Str := es.filterMap fun e => match e with | .str s => some s | _ => none
def grB : PyData → Bool
  | .list es => decide (1 ≤ es.length) && decide (es.length ≤ 6) && (es.all usD && decide (es.length = (once [] (gtx es)).length))
  | _ => false
theorem gtx_of : ∀ {H : Hp} {vs : List V} {es : List PyData}, Ods H vs es → es.all usD = true → vs = (gtx es).map V.str ∧ es = (gtx es).map PyData.str
  | _, [], [], .nil, _ => ⟨rfl, rfl⟩
  | _, v :: vs, e :: es, .cons h t, hu => by
    rw [List.all_cons, Bool.and_eq_true] at hu
    obtain ⟨i1, i2⟩ := gtx_of t hu.2
    obtain ⟨⟨hs, _⟩, _⟩ := h
    cases hs with
    | str s => exact ⟨by rw [show gtx (PyData.str s :: es) = s :: gtx es from rfl, List.map_cons, ← i1], by rw [show gtx (PyData.str s :: es) = s :: gtx es from rfl, List.map_cons, ← i2]⟩
    | _ => exact absurd hu.1 Bool.false_ne_true
section
variable {P : Program} {w : World} {K : PySem.W.Frag} {mg : Str → Option Value} {base : Heap} {A : Ads}
set_option pp.maxSteps 200
theorem kit_sq (e : PyData) : PySem.W.kitAny K (.type (tyN e)) [.type "list", .type "tuple"] = some (isSq e) := by
  cases e
  case none => exact kit2 (t := "NoneType") (a := "list") (b := "tuple") (r1 := false) (r2 := false) (by decide +kernel) (by decide +kernel)
  case bool => exact kit2 (t := "bool") (a := "list") (b := "tuple") (r1 := false) (r2 := false) (by decide +kernel) (by decide +kernel)
  case int => exact kit2 (t := "int") (a := "list") (b := "tuple") (r1 := false) (r2 := false) (by decide +kernel) (by decide +kernel)
  case str => exact kit2 (t := "str") (a := "list") (b := "tuple") (r1 := false) (r2 := false) (by decide +kernel) (by decide +kernel)
  case list => exact kit2 (t := "list") (a := "list") (b := "tuple") (r1 := true) (r2 := false) (by decide +kernel) (by decide +kernel)
  case tuple => exact kit2 (t := "tuple") (a := "list") (b := "tuple") (r1 := false) (r2 := true) (by decide +kernel) (by decide +kernel)
  case dict => exact kit2 (t := "dict") (a := "list") (b := "tuple") (r1 := false) (r2 := false) (by decide +kernel) (by decide +kernel)
theorem ok_is_list (T : Txt K mg A) : FnOk P w K mg base CX0 1 A.f_is_list A.d_is_list ["value"] (fun vs H Q _ => ∃ v e, vs = [v] ∧ GV H v e ∧ ∀ H', Keep [] H H' → Q (.bl (isSq e)) H') := by
  refine T.F_is_list.ok sc_is_list (fun vs H Q E h => ?_) (fun cdv A_ outer s_ H vs Q E hr h => ?_)
  · obtain ⟨v, e, rfl, _⟩ := h
    rfl
  · obtain ⟨v, e, rfl, he, q⟩ := h
    refine ⟨_, (pss_one (ps_ret (pe_callB call_isiT (by rfl) T.b_isinstance (by decide +kernel) (pa_cons (pv 0) (pa_cons (pe_tupN (pa_cons (pe_bltn (v := .ty "list") rfl T.b_list (by decide +kernel) rfl) (pa_cons (pe_bltn (v := .ty "tuple") rfl T.b_tuple (by decide +kernel) rfl) pa_nil))) pa_nil))))), ?_⟩
    walk_at "rd"
    refine NewO.mk fun tp H1 np kp ht => ?_
    exact ⟨_, tp, _, _, _, isSq e, rfl, ht, .cons (ClsV.ty _) (.cons (ClsV.ty _) .nil), (he.keep kp).ty, kit_sq e, q H1 kp⟩
theorem ok__are_groups (T : Txt K mg A) : FnOk P w K mg base CX0 3 A.f__are_groups A.d__are_groups ["value"] (fun vs H Q _ => ∃ v e, vs = [v] ∧ GV H v e ∧ ∀ H', Keep [] H H' → Q (.bl (grB e)) H') := by
  refine T.F__are_groups.ok sc__are_groups (fun vs H Q E h => ?_) (fun cdv A_ outer s_ H vs Q E hr h => ?_)
  · obtain ⟨v, e, rfl, _⟩ := h
    rfl
  · obtain ⟨v, e, rfl, he, q⟩ := h
    refine ⟨_, (pss_cons (ps_if (PW.pt (pw_or (pt_not (pt_val (pe_call (ok_is_list T) (hr.mono (by decide)) (by rfl) T.g_is_list T.F_is_list.kp T.B_is_list .nil pass0 (pa_cons (pv 0) pa_nil)))) (pw_or1 (pt_not (pt_chain op_le op_le pe_int (pe_callB call_len_seq (by rfl) T.b_len PySem.boot_len (pa_cons (pv 0) pa_nil)) (pe_gc rfl T.c_MOST_GROUPS)))))) (pss_one (ps_ret pe_bl)) pss_nil)
  (pss_one (ps_ret (pe_and (pe_callB (cr_all rfl) (by rfl) T.b_all (by decide +kernel) (pa_cons (pe_lc (own := [("name", 1)]) (g := gName 1) rfl sc__are_groups.nd (pi_seq (pv 0)) (blkOk_by (own := [("name", 1)]) (N := N__are_groups) (sc := defScope s__are_groups) (by decide +kernel)) (fun _ _ _ _ _ => pg_name (i := 1) sc__are_groups.nd rfl (Or.inl rfl)) (fun _ _ _ _ _ => pts_nil) (fun _ _ _ _ _ => (pe_call (ok_is_user_name T) (hr.mono (by decide)) (by rfl) T.g_is_user_name T.F_is_user_name.kp T.B_is_user_name .nil pass0 (pa_cons (pv 1) pa_nil)))) pa_nil)) (pe_one (pe_cmpR op_eq (pe_callB call_len_seq (by rfl) T.b_len PySem.boot_len (pa_cons (pv 0) pa_nil)) (pe_lenSetS (by rfl) T.b_len (by rfl) T.b_set (pv 0)) (nomark _))))))), ?_⟩
    refine ⟨_, rfl, ?_⟩
    refine ⟨v, e, rfl, he, fun H1 k1 => ?_⟩
    refine ⟨_, rfl, ?_⟩
    have he1 := he.keep k1
    cases he with
    | tup h =>
      refine ifF rfl ?_
      refine ⟨_, rfl, _, [], rfl, .inr (.inl (.of (k1 _ _ h (by simp)))), ?_⟩
      refine ⟨_, _, rfl, rfl, _, rfl, ifF (by decide) ?_⟩
      refine ⟨_, rfl, ?_⟩
      refine ifT rfl ?_
      exact q H1 k1
    | @lst p vs es h s o l =>
      refine ifF rfl ?_
      have lv : vs.length = es.length := Paired.length o
      have hp1 := k1 _ _ h (by simp)
      have o1 := o.keep k1
      refine ⟨_, rfl, _, _, rfl, .inl (.inl (.inl hp1)), ?_⟩
      rw [lv]
      refine ⟨_, _, rfl, rfl, ?_⟩
      have q : ∀ H', Keep [] H H' → Q (.bl (decide (1 ≤ es.length) && decide (es.length ≤ 6) && (es.all usD && decide (es.length = (once [] (gtx es)).length)))) H' := q
      by_cases c1 : 1 ≤ es.length
      · rw [decide_eq_true c1, Bool.true_and] at q
        refine ⟨_, rfl, ifT (decide_eq_true (by omega)) ?_⟩
        refine ⟨_, _, rfl, rfl, _, rfl, ?_⟩
        by_cases c2 : es.length ≤ 6
        · rw [decide_eq_true c2, Bool.true_and] at q
          refine ifF (by rw [decide_eq_true (show (es.length : Int) ≤ 6 by omega)]; rfl) ?_
          walk_at "rd"
          refine .inl ⟨_, .inl (Rd.of hp1), fun D hD => ?_⟩
          refine lc_it (walk_list (xs := vs)) (fun i H2 => H2 = upd H1 D (.lst ((es.take i).map fun e => V.bl (usD e)))) rfl (fun i H2 _ e => ?_) (fun i x H2 H3 hi e y => ?_) (fun H2 e => ?_)
          · subst e
            exact .inl (Rd.of ((keep_new hD) _ _ hp1 (by simp)))
          · subst e
            obtain ⟨rfl, hx⟩ := y
            obtain ⟨e, he, ho⟩ := paired_get o1 hx
            walk_at "rd"
            have li : i < 7 := by omega
            refine ⟨x, e, rfl, ho.keep (keep_new hD), _, upd_same, size_le (by rw [List.length_map, List.length_take]; omega), ?_⟩
            rw [upd_again, List.take_add_one, he, List.map_append]
            rfl
          · subst e
            rw [lv, List.take_length]
            have k2 : Keep [] H1 (upd H1 D (.lst (es.map fun e => V.bl (usD e)))) := keep_new hD
            have hD2 : upd H1 D (.lst (es.map fun e => V.bl (usD e))) D = some (.lst ((es.map usD).map V.bl)) := by rw [upd_same, List.map_map]; rfl
            generalize upd H1 D (.lst (es.map fun e => V.bl (usD e))) = H2 at k2 hD2 ⊢
            refine ⟨D, es.map usD, rfl, .inl (Rd.of hD2), ?_⟩
            rw [show (es.map usD).all id = es.all usD by rw [List.all_map]; rfl]
            cases hu : es.all usD with
            | false =>
              rw [hu, Bool.false_and] at q
              refine ⟨false, rfl, ifF rfl ?_⟩
              exact q H2 (k1.trans k2)
            | true =>
              rw [hu, Bool.true_and] at q
              obtain ⟨t1, t2⟩ := gtx_of o1 hu
              have lt : (gtx es).length = es.length := by
                have := congrArg List.length t2
                rw [List.length_map] at this
                exact this.symm
              have hp2 := k2 _ _ hp1 (by simp)
              refine ⟨true, rfl, ifT rfl ?_⟩
              refine ⟨_, rfl, p, _, rfl, .inl (.inl (.inl hp2)), ?_⟩
              refine ⟨_, rfl, gtx es, ⟨p, rfl, .inl (.inl (.inl (by rw [← t1]; exact hp2)))⟩, by omega, ?_⟩
              refine ⟨rfl, ?_⟩
              rw [show decide (V.int ((vs.length : Nat) : Int) = V.int (((once [] (gtx es)).length : Nat) : Int)) = decide (es.length = (once [] (gtx es)).length) from decide_eq_decide.mpr ⟨fun z => by have := V.int.inj z; omega, fun z => by rw [lv, z]⟩]
              exact q H2 (k1.trans k2)
        · rw [decide_eq_false c2, Bool.false_and] at q
          refine ifT (by rw [decide_eq_false (show ¬ (es.length : Int) ≤ 6 by omega)]; rfl) ?_
          exact q H1 k1
      · rw [decide_eq_false c1, Bool.false_and, Bool.false_and] at q
        refine ⟨_, rfl, ifF (decide_eq_false (by omega)) ?_⟩
        refine ⟨_, rfl, ?_⟩
        refine ifT rfl ?_
        exact q H1 k1
    | _ =>
      refine ifT rfl ?_
      refine ifT rfl ?_
      exact q H1 k1
end
end K24
namespace K24
open PySem PySem.Spec PyProof.Rows L2 FR TL
open C8 (pss_cut pe_gc)
open StX (pe_callS2 pa_star)
/-- a list or a tuple of these texts -/
def Sq (H : Hp) (x : V) (xs : List Str) : Prop := ∃ p, x = .ref p ∧ (H p = some (.lst (xs.map V.str)) ∨ H p = some (.tup (xs.map V.str)))
theorem Sq.tx {K : PySem.W.Frag} {H : Hp} {x : V} {xs : List Str} (h : Sq H x xs) : TxSq K H x xs := by
  obtain ⟨p, rfl, h | h⟩ := h
  · exact ⟨p, rfl, .inl (.inl (Rd.of h))⟩
  · exact ⟨p, rfl, .inr (.inl (Rd.of h))⟩
theorem Sq.keep {H H' : Hp} {x : V} {xs : List Str} (h : Sq H x xs) (k : Keep [] H H') : Sq H' x xs := by
  obtain ⟨p, rfl, h | h⟩ := h
  · exact ⟨p, rfl, .inl (k _ _ h (by simp))⟩
  · exact ⟨p, rfl, .inr (k _ _ h (by simp))⟩
/-! people as a list of users with their groups -/
abbrev Mp := List (Str × List Str)
def mget (m : Mp) (u : Str) : List Str := ((m.find? fun e => decide (e.1 = u)).map (·.2)).getD []
structure Mk (m : Mp) : Prop where
  nd : (m.map (·.1)).Nodup
  us : ∀ e ∈ m, Us e.1
  gs : ∀ e ∈ m, Uss e.2 ∧ e.2.Nodup ∧ 1 ≤ e.2.length ∧ e.2.length ≤ 6
  l1 : 1 ≤ m.length
  l6 : m.length ≤ 6
theorem mget_mem : ∀ {m : Mp} {e : Str × List Str}, (m.map (·.1)).Nodup → e ∈ m → mget m e.1 = e.2
  | [], _, _, h => absurd h List.not_mem_nil
  | x :: r, e, nd, h => by
    rw [List.map_cons, List.nodup_cons] at nd
    unfold mget
    by_cases c : x.1 = e.1
    · rw [List.find?_cons_of_pos (by simpa using c)]
      rcases List.mem_cons.mp h with rfl | h
      · rfl
      · exact absurd (List.mem_map.mpr ⟨e, h, c.symm⟩) nd.1
    · rw [List.find?_cons_of_neg (by simpa using c)]
      rcases List.mem_cons.mp h with rfl | h
      · exact absurd rfl c
      · exact mget_mem nd.2 h
theorem mget_map {m : Mp} (nd : (m.map (·.1)).Nodup) : (m.map (·.1)).map (fun u => (u, mget m u)) = m := by
  rw [List.map_map]
  conv => rhs; rw [← List.map_id m]
  refine List.map_congr_left fun e he => ?_
  show (e.1, mget m e.1) = e
  rw [mget_mem nd he]
theorem srt_perm' {xs zs : List Str} (q : xs.Perm zs) : srt xs = srt zs := by
  by_cases h : ∃ ys : List Str, ys.Perm xs ∧ sortedS ys = true
  · obtain ⟨ys, p, s⟩ := h
    exact srt_perm p s q
  · unfold srt
    rw [dif_neg h, dif_neg fun ⟨ys, p, s⟩ => h ⟨ys, p.trans q.symm, s⟩]
noncomputable def sm (m : Mp) : Mp := (srt (m.map (·.1))).map fun u => (u, mget m u)
def flatM (m : Mp) : List Str := (m.map (·.2)).flatten
noncomputable def gsOf (m : Mp) : List Str := srt (once [] (flatM m))
theorem sm_eq {m : Mp} {ys : List Str} (p : ys.Perm (m.map (·.1))) (h : sortedS ys = true) : sm m = ys.map fun u => (u, mget m u) := by
  unfold sm
  rw [← srt_eq p h]
theorem sm_perm {m : Mp} (nd : (m.map (·.1)).Nodup) {ys : List Str} (p : ys.Perm (m.map (·.1))) (h : sortedS ys = true) : (sm m).Perm m := by
  rw [sm_eq p h]
  have := p.map fun u => (u, mget m u)
  rwa [mget_map nd] at this
theorem sm_keys {m : Mp} {ys : List Str} (p : ys.Perm (m.map (·.1))) (h : sortedS ys = true) : (sm m).map (·.1) = ys := by
  rw [sm_eq p h, List.map_map]
  exact List.map_id _
theorem Mk.perm {m n : Mp} (h : Mk m) (p : n.Perm m) : Mk n where
  nd := (p.map _).nodup_iff.mpr h.nd
  us := fun e he => h.us e (p.mem_iff.mp he)
  gs := fun e he => h.gs e (p.mem_iff.mp he)
  l1 := by rw [p.length_eq]; exact h.l1
  l6 := by rw [p.length_eq]; exact h.l6
theorem mem_flatM {m : Mp} {g : Str} : g ∈ flatM m ↔ ∃ e ∈ m, g ∈ e.2 := by
  unfold flatM
  rw [List.mem_flatten]
  constructor
  · rintro ⟨l, hl, hg⟩
    obtain ⟨e, he, rfl⟩ := List.mem_map.mp hl
    exact ⟨e, he, hg⟩
  · rintro ⟨e, he, hg⟩
    exact ⟨e.2, List.mem_map_of_mem he, hg⟩
theorem once_perm {a b : List Str} (h : ∀ x, x ∈ a ↔ x ∈ b) : (once [] a).Perm (once [] b) := by
  refine (List.perm_ext_iff_of_nodup (once_nodup a [] .nil) (once_nodup b [] .nil)).mpr fun x => ?_
  rw [once_mem, once_mem, h x]
theorem gs_perm {m n : Mp} (p : n.Perm m) : gsOf n = gsOf m := srt_perm' (once_perm fun x => by
  rw [mem_flatM, mem_flatM]
  exact ⟨fun ⟨e, he, hx⟩ => ⟨e, p.mem_iff.mp he, hx⟩, fun ⟨e, he, hx⟩ => ⟨e, p.mem_iff.mpr he, hx⟩⟩)
theorem mget_perm {m n : Mp} (nd : (m.map (·.1)).Nodup) (p : n.Perm m) (u : Str) : mget n u = mget m u := by
  by_cases h : u ∈ m.map (·.1)
  · obtain ⟨e, he, rfl⟩ := List.mem_map.mp h
    rw [mget_mem nd he, mget_mem ((p.map _).nodup_iff.mpr nd) (p.mem_iff.mpr he)]
  · have no : ∀ {k : Mp}, u ∉ k.map (·.1) → mget k u = [] := fun {k} hk => by
      unfold mget
      rw [List.find?_eq_none.mpr fun e he c => hk (List.mem_map.mpr ⟨e, he, of_decide_eq_true c⟩)]
      rfl
    rw [no h, no fun hn => h ((p.map _).mem_iff.mp hn)]
theorem sm_perm2 {m n : Mp} (nd : (m.map (·.1)).Nodup) (p : n.Perm m) : sm n = sm m := by
  unfold sm
  rw [srt_perm' (p.map _)]
  exact List.map_congr_left fun u _ => by rw [mget_perm nd p]
theorem flat_len {m : Mp} (h : Mk m) : (flatM m).length ≤ 36 := by
  unfold flatM
  rw [List.length_flatten]
  have : ((m.map (·.2)).map List.length).sum ≤ ((m.map (·.2)).map List.length).length * 6 := by
    have all : ∀ l ∈ (m.map (·.2)).map List.length, l ≤ 6 := fun l hl => by
      obtain ⟨x, hx, rfl⟩ := List.mem_map.mp hl
      obtain ⟨e, he, rfl⟩ := List.mem_map.mp hx
      exact (h.gs e he).2.2.2
    generalize (m.map (·.2)).map List.length = L at all
    induction L with
    | nil => simp
    | cons a r ih =>
      rw [List.sum_cons, List.length_cons, Nat.add_one_mul]
      have h1 := all a List.mem_cons_self
      have h2 := ih fun l hl => all l (List.mem_cons_of_mem _ hl)
      omega
  have l6 := h.l6
  simp only [List.length_map] at this
  omega
/-! how it stands in the heap -/
def RL (H : Hp) (x : V) (xs : List Str) : Prop := ∃ p, x = .ref p ∧ H p = some (.lst (xs.map V.str))
def RT (H : Hp) (x : V) (xs : List Str) : Prop := ∃ p, x = .ref p ∧ H p = some (.tup (xs.map V.str))
theorem RL.keep {H H' : Hp} {x : V} {xs : List Str} (h : RL H x xs) (k : Keep [] H H') : RL H' x xs := by
  obtain ⟨p, rfl, h⟩ := h
  exact ⟨p, rfl, k _ _ h (by simp)⟩
theorem RT.keep {H H' : Hp} {x : V} {xs : List Str} (h : RT H x xs) (k : Keep [] H H') : RT H' x xs := by
  obtain ⟨p, rfl, h⟩ := h
  exact ⟨p, rfl, k _ _ h (by simp)⟩
theorem RL.sq {H : Hp} {x : V} {xs : List Str} (h : RL H x xs) : Sq H x xs := h.imp fun _ ⟨e, h⟩ => ⟨e, .inl h⟩
theorem RT.sq {H : Hp} {x : V} {xs : List Str} (h : RT H x xs) : Sq H x xs := h.imp fun _ ⟨e, h⟩ => ⟨e, .inr h⟩
def DM (R : V → List Str → Prop) : List (L2.Key × V) → Mp → Prop := Paired fun kv e => kv.1 = Sum.inr e.1 ∧ R kv.2 e.2
theorem DM.imp {R S : V → List Str → Prop} {kvs : List (L2.Key × V)} {m : Mp} (h : DM R kvs m) (f : ∀ x xs, R x xs → S x xs) : DM S kvs m := Paired.mapP h fun _ _ ⟨e, r⟩ => ⟨e, f _ _ r⟩
theorem DM.len {R : V → List Str → Prop} {kvs : List (L2.Key × V)} {m : Mp} (h : DM R kvs m) : kvs.length = m.length := Paired.length h
theorem DM.keys {R : V → List Str → Prop} {kvs : List (L2.Key × V)} {m : Mp} (h : DM R kvs m) : kvs.map (·.1) = (m.map (·.1)).map Sum.inr := by
  unfold DM at h
  induction h with
  | nil => rfl
  | cons h t ih => rw [List.map_cons, List.map_cons, List.map_cons, ih, h.1]
theorem DM.val {R : V → List Str → Prop} {kvs : List (L2.Key × V)} {m : Mp} (h : DM R kvs m) {u : Str} (hu : u ∈ m.map (·.1)) : ∃ v, valV kvs (Sum.inr u) = some v ∧ R v (mget m u) := by
  unfold DM at h
  induction h with
  | nil => exact absurd hu List.not_mem_nil
  | @cons kv e a b h t ih =>
    by_cases c : e.1 = u
    · refine ⟨kv.2, valV_pos (by rw [h.1, c]), ?_⟩
      unfold mget
      rw [List.find?_cons_of_pos (by simpa using c)]
      exact h.2
    · rw [List.map_cons] at hu
      obtain ⟨v, h1, h2⟩ := ih ((List.mem_cons.mp hu).resolve_left fun z => c z.symm)
      refine ⟨v, by rw [valV_neg (by rw [h.1]; exact fun z => c (Sum.inr.inj z))]; exact h1, ?_⟩
      unfold mget
      rw [List.find?_cons_of_neg (by simpa using c)]
      exact h2
theorem DM.no {R : V → List Str → Prop} {kvs : List (L2.Key × V)} {m : Mp} (h : DM R kvs m) {u : Str} (hu : u ∉ m.map (·.1)) : valV kvs (Sum.inr u) = none := by
  unfold DM at h
  induction h with
  | nil => rfl
  | @cons kv e a b h t ih =>
    rw [List.map_cons, List.mem_cons, not_or] at hu
    rw [valV_neg (by rw [h.1]; exact fun z => hu.1 (Sum.inr.inj z).symm)]
    exact ih hu.2
theorem DM.get {R : V → List Str → Prop} {kvs : List (L2.Key × V)} {m : Mp} (h : DM R kvs m) {i : Nat} {k : L2.Key} {v : V} (hi : kvs[i]? = some (k, v)) : ∃ e, m[i]? = some e ∧ k = Sum.inr e.1 ∧ R v e.2 := by
  unfold DM at h
  induction h generalizing i with
  | nil => simp at hi
  | @cons kv e a b h t ih =>
    cases i with
    | zero =>
      obtain rfl : kv = (k, v) := by simpa using hi
      exact ⟨e, rfl, h⟩
    | succ i => exact ih (by simpa using hi)
theorem DM.snoc {R : V → List Str → Prop} {kvs : List (L2.Key × V)} {m : Mp} (h : DM R kvs m) {u : Str} {v : V} {xs : List Str} (r : R v xs) (hu : u ∉ m.map (·.1)) : putK kvs (Sum.inr u) v = kvs ++ [(Sum.inr u, v)] ∧ DM R (kvs ++ [(Sum.inr u, v)]) (m ++ [(u, xs)]) := by
  refine ⟨?_, ?_⟩
  · unfold putK
    rw [valV_any, h.no hu]
    rfl
  · clear hu
    unfold DM at h ⊢
    induction h with
    | nil => exact .cons ⟨rfl, r⟩ .nil
    | cons h t ih => exact .cons h ih
structure Ppl (C : Addr) (H : Hp) (p : Addr) (M : Mp) (gs : List Str) (d g dx : Addr) (kvs : List (L2.Key × V)) : Prop where
  ob : H p = some (.ins C dx [("_held", .ref d), ("_groups", .ref g)])
  hd : H d = some (.dK kvs)
  dm : DM (RT H) kvs M
  hg : H g = some (.lst (gs.map V.str))
  gd : Mk M
  gm : ∀ x, x ∈ gs ↔ ∃ e ∈ M, x ∈ e.2
  gl : gs.length ≤ 6
def Pp (C : Addr) (H : Hp) (p : Addr) (M : Mp) (gs : List Str) : Prop := ∃ d g dx kvs, Ppl C H p M gs d g dx kvs
theorem Ppl.keep {C : Addr} {H H' : Hp} {p : Addr} {M : Mp} {gs : List Str} {d g dx : Addr} {kvs : List (L2.Key × V)} (h : Ppl C H p M gs d g dx kvs) (k : Keep [] H H') : Ppl C H' p M gs d g dx kvs :=
  ⟨k _ _ h.ob (by simp), k _ _ h.hd (by simp), h.dm.imp fun _ _ r => r.keep k, k _ _ h.hg (by simp), h.gd, h.gm, h.gl⟩
theorem Pp.keep {C : Addr} {H H' : Hp} {p : Addr} {M : Mp} {gs : List Str} (h : Pp C H p M gs) (k : Keep [] H H') : Pp C H' p M gs := by
  obtain ⟨d, g, dx, kvs, h⟩ := h
  exact ⟨d, g, dx, kvs, h.keep k⟩
/-! ### users -/
def keyOk (k : L2.Key) : Bool := okB (kD k) && ascB (kD k)
def usersB (ks : List L2.Key) : Bool := decide (1 ≤ ks.length) && decide (ks.length ≤ 6) && ks.all fun k => usD (kD k)
theorem key_od {H : Hp} {k : L2.Key} (h : keyOk k = true) : Od H (kV k) (kD k) := by
  unfold keyOk at h
  rw [Bool.and_eq_true] at h
  refine ⟨⟨?_, h.1⟩, h.2⟩
  cases k with
  | inl i => exact .int i
  | inr s => exact .str s
section
variable {P : Program} {w : World} {K : PySem.W.Frag} {mg : Str → Option Value} {base : Heap} {A : Ads}
set_option pp.maxSteps 200
theorem ok__are_users (T : Txt K mg A) : FnOk P w K mg base CX0 3 A.f__are_users A.d__are_users ["value"] (fun vs H Q _ => (∃ a kvs, vs = [.ref a] ∧ H a = some (.dK kvs) ∧ (∀ kv ∈ kvs, keyOk kv.1 = true) ∧ ∀ H', Keep [] H H' → Q (.bl (usersB (kvs.map (·.1)))) H') ∨ (∃ v t, vs = [v] ∧ TyX K H v (.type t) ∧ kitB t "dict" = some false ∧ Q (.bl false) H)) := by
  refine T.F__are_users.ok sc__are_users (fun vs H Q E h => ?_) (fun cdv A_ outer s_ H vs Q E hr h => ?_)
  · obtain ⟨a, kvs, rfl, _⟩ | ⟨v, t, rfl, _⟩ := h <;> rfl
  · refine ⟨_, (pss_cons (ps_if (PW.pt (pw_or (pt_not (pt_val (pe_callB call_isi (by rfl) T.b_isinstance (by decide +kernel) (pa_cons (pv 0) (pa_cons (pe_bltn (v := .ty "dict") rfl T.b_dict (by decide +kernel) rfl) pa_nil))))) (pw_or1 (pt_not (pt_chain op_le op_le pe_int (pe_callB call_lenD (by rfl) T.b_len PySem.boot_len (pa_cons (pv 0) pa_nil)) (pe_gc rfl T.c_MOST_USERS)))))) (pss_one (ps_ret pe_bl)) pss_nil)
  (pss_one (ps_ret (pe_callB (cr_all rfl) (by rfl) T.b_all (by decide +kernel) (pa_cons (pe_lock (pe_lc (own := [("name", 1)]) (g := gName 1) rfl sc__are_users.nd (pi_keys (pv 0)) (blkOk_by (own := [("name", 1)]) (N := N__are_users) (sc := defScope s__are_users) (by decide +kernel)) (fun _ _ _ _ _ => pg_name (i := 1) sc__are_users.nd rfl (Or.inl rfl)) (fun _ _ _ _ _ => pts_nil) (fun _ _ _ _ _ => (pe_call (ok_is_user_name T) (hr.mono (by decide)) (by rfl) T.g_is_user_name T.F_is_user_name.kp T.B_is_user_name .nil pass0 (pa_cons (pv 1) pa_nil))))) pa_nil))))), ?_⟩
    obtain ⟨a, kvs, rfl, ha, hk, q⟩ | ⟨v, t, rfl, ty, kt, q⟩ := h
    · walk_at "rd"
      refine ⟨a, kvs, rfl, ha, ?_⟩
      refine ⟨_, _, rfl, rfl, ?_⟩
      have q : ∀ H', Keep [] H H' → Q (.bl (decide (1 ≤ (kvs.map (·.1)).length) && decide ((kvs.map (·.1)).length ≤ 6) && (kvs.map (·.1)).all fun k => usD (kD k))) H' := q
      rw [List.length_map] at q
      by_cases c1 : 1 ≤ kvs.length
      · rw [decide_eq_true c1, Bool.true_and] at q
        refine ⟨_, rfl, ifT (decide_eq_true (by omega)) ?_⟩
        refine ⟨_, _, rfl, rfl, _, rfl, ?_⟩
        by_cases c2 : kvs.length ≤ 6
        · rw [decide_eq_true c2, Bool.true_and] at q
          refine ifF (by rw [decide_eq_true (show (kvs.length : Int) ≤ 6 by omega)]; rfl) ?_
          walk_at "rd"
          refine ⟨a, _, ha, trivial, fun od => ?_⟩
          refine ⟨_, rfl, a, od, rfl, .inl ⟨kvs, upd_same, fun D hD => ?_⟩⟩
          have nD : D ≠ a := fun e => by rw [e, upd_same] at hD; cases hD
          refine lc_it walk_keys (fun i H1 => H1 = upd (upd H a (.frz od (.dK kvs))) D (.lst ((kvs.take i).map fun kv => V.bl (usD (kD kv.1))))) rfl (fun i H1 _ e => ?_) (fun i x H1 H2 hi e y => ?_) (fun H1 e => ?_)
          · subst e
            rw [upd_ne (Ne.symm nD), upd_same]
          · subst e
            obtain ⟨rfl, k, v, hkv, rfl⟩ := y
            walk_at "rd"
            have li : i < 7 := by omega
            refine ⟨_, kD k, rfl, key_od (hk _ (List.mem_of_getElem? hkv)), _, upd_same, size_le (by rw [List.length_map, List.length_take]; omega), ?_⟩
            rw [upd_again, List.take_add_one, hkv, List.map_append]
            rfl
          · subst e
            rw [List.take_length]
            refine ⟨by rw [upd_ne (Ne.symm nD), upd_same], ?_⟩
            refine ⟨D, kvs.map fun kv => usD (kD kv.1), rfl, .inl (Rd.of ?_), ?_⟩
            · rw [upd_ne nD, upd_same, List.map_map]
              rfl
            · rw [show (kvs.map fun kv => usD (kD kv.1)).all id = (kvs.map (·.1)).all fun k => usD (kD k) by rw [List.all_map, List.all_map]; rfl]
              exact q _ (keep_lock ha (keep_new hD))
        · rw [decide_eq_false c2, Bool.false_and] at q
          refine ifT (by rw [decide_eq_false (show ¬ (kvs.length : Int) ≤ 6 by omega)]; rfl) ?_
          exact q H Keep.refl
      · rw [decide_eq_false c1, Bool.false_and, Bool.false_and] at q
        refine ⟨_, rfl, ifF (decide_eq_false (by omega)) ?_⟩
        refine ⟨_, rfl, ?_⟩
        refine ifT rfl ?_
        exact q H Keep.refl
    · walk_at "rd"
      refine ⟨_, _, _, _, _, rfl, .ty _, ty, kit_ty kt, ?_⟩
      walk_at "rd"
      exact q
end
end K24
namespace K24
open PySem PySem.Spec PyProof.Rows L2 FR TL
open C8 (pss_cut pe_gc)
open StX (pe_callS2 pa_star)
section
variable {P : Program} {w : World} {K : PySem.W.Frag} {mg : Str → Option Value} {base : Heap} {A : Ads}
set_option pp.maxSteps 120
theorem flat_take {M : Mp} {i : Nat} {e : Str × List Str} (h : M[i]? = some e) : flatM (M.take (i + 1)) = flatM (M.take i) ++ e.2 := by
  unfold flatM
  rw [List.take_add_one, h]
  simp
theorem once_app (l xs ys : List Str) : once l (xs ++ ys) = once (once l xs) ys := by
  unfold once
  rw [List.foldl_append]
theorem flat_take_len {M : Mp} (h : Mk M) (i : Nat) : (flatM (M.take i)).length ≤ 36 := by
  by_cases c : M.take i = []
  · rw [c]; simp [flatM]
  · exact flat_len ⟨h.nd.sublist ((List.take_sublist i M).map _), fun e he => h.us e (List.mem_of_mem_take he), fun e he => h.gs e (List.mem_of_mem_take he), List.length_pos_iff.mpr c, Nat.le_trans (List.length_take_le' i M) h.l6⟩
theorem Keep.to1 {H H' : Hp} {p : Addr} (k : Keep [] H H') : Keep [p] H H' := fun b o e _ => k b o e (by simp)
theorem Sq.keep1 {H H' : Hp} {p : Addr} {o : HO} {x : V} {xs : List Str} (h : Sq H x xs) (hp : H p = some o) (no : (∀ ys, o ≠ .lst ys) ∧ ∀ ys, o ≠ .tup ys) (k : Keep [p] H H') : Sq H' x xs := by
  obtain ⟨q, rfl, h | h⟩ := h
  · exact ⟨q, rfl, .inl (k _ _ h (by simpa using ne_of h hp (fun z => no.1 _ z.symm)))⟩
  · exact ⟨q, rfl, .inr (k _ _ h (by simpa using ne_of h hp (fun z => no.2 _ z.symm)))⟩
def Out (C : Addr) (v : V) (E : XK) (H : Hp) : Prop := ∀ (d : Addr) (H' : Hp), Keep [] H H' → H' d = some (.xd [(("value" : Str), v)]) → E (.ref C) (some d) H'
theorem Out.mono {C : Addr} {v : V} {E : XK} {H H' : Hp} (h : Out C v E H) (k : Keep [] H H') : Out C v E H' := fun d H2 k2 e => h d H2 (k.trans k2) e
theorem Out.new {C : Addr} {v : V} {E : XK} {H : Hp} (h : Out C v E H) : ∀ d, H d = none → E (.ref C) (some d) (upd H d (.xd [(("value" : Str), v)])) := fun d hd => h d _ (keep_new hd) upd_same
/-- out of the making of p: p may have changed -/
def OutC (C : Addr) (p : Addr) (v : V) (E : XK) (H : Hp) : Prop := ∀ (d : Addr) (H' : Hp), Keep [p] H H' → H' d = some (.xd [(("count" : Str), v)]) → E (.ref C) (some d) H'
/-- the texts of what stands for groups -/
def gOf : PyData → List Str
  | .list es => gtx es
  | _ => []
/-- the first of the users whose groups don't fit -/
noncomputable def fbad (ks : List Str) (g : Str → PyData) : Option Str := (srt ks).find? fun u => !grB (g u)
def mOf (ks : List Str) (g : Str → PyData) : Mp := ks.map fun u => (u, gOf (g u))
structure Dct (H : Hp) (a : Addr) (kvs : List (L2.Key × V)) (ks : List Str) (val : Str → V) (g : Str → PyData) : Prop where
  hd : H a = some (.dK kvs)
  ke : kvs.map (·.1) = ks.map Sum.inr
  ok : ∀ kv ∈ kvs, keyOk kv.1 = true
  nd : ks.Nodup
  us : ∀ u ∈ ks, Us u
  l1 : 1 ≤ ks.length
  l6 : ks.length ≤ 6
  va : ∀ u ∈ ks, valV kvs (Sum.inr u) = some (val u) ∧ GV H (val u) (g u)
theorem once_nd0 : ∀ {xs l : List Str}, l.length + xs.length = (once l xs).length → xs.Nodup ∧ ∀ x ∈ xs, x ∉ l
  | [], l, _ => ⟨List.nodup_nil, fun x h => by cases h⟩
  | c :: r, l, h => by
    by_cases m : c ∈ l
    · have e : once l (c :: r) = once l r := by unfold once; rw [List.foldl_cons, if_pos m]
      have := once_len r l
      rw [e, List.length_cons] at h
      omega
    · have e : once l (c :: r) = once (c :: l) r := by unfold once; rw [List.foldl_cons, if_neg m]
      rw [e, List.length_cons] at h
      obtain ⟨n, f⟩ := once_nd0 (xs := r) (l := c :: l) (by rw [List.length_cons]; omega)
      refine ⟨List.nodup_cons.mpr ⟨fun hc => f c hc List.mem_cons_self, n⟩, fun x hx => ?_⟩
      rcases List.mem_cons.mp hx with rfl | hx
      · exact m
      · exact fun z => f x hx (List.mem_cons_of_mem _ z)
theorem once_nd {xs : List Str} (h : xs.length = (once [] xs).length) : xs.Nodup := (once_nd0 (l := []) (by rw [List.length_nil, Nat.zero_add]; exact h)).1
theorem find_at {α : Type} {p : α → Bool} : ∀ {ys : List α} {n : Nat} {u : α}, ys[n]? = some u → p u = true → (∀ z ∈ ys.take n, p z = false) → ys.find? p = some u
  | [], _, _, h, _, _ => by simp at h
  | y :: ys, 0, u, h, b, a => by
    have : y = u := by simpa using h
    subst this
    rw [List.find?_cons_of_pos b]
  | y :: ys, n + 1, u, h, b, a => by
    rw [List.find?_cons_of_neg (by rw [a y (by simp)]; exact Bool.false_ne_true)]
    exact find_at (n := n) (by simpa using h) b fun z hz => a z (by rw [List.take_succ_cons]; exact List.mem_cons_of_mem _ hz)
theorem gr_sq {H : Hp} {v : V} {e : PyData} (h : GV H v e) (b : grB e = true) : Sq H v (gOf e) ∧ Uss (gOf e) ∧ (gOf e).Nodup ∧ 1 ≤ (gOf e).length ∧ (gOf e).length ≤ 6 := by
  cases h with
  | @lst p vs es h s o l =>
    have b' : (decide (1 ≤ es.length) && decide (es.length ≤ 6) && (es.all usD && decide (es.length = (once [] (gtx es)).length))) = true := b
    simp only [Bool.and_eq_true, decide_eq_true_eq] at b'
    obtain ⟨⟨b1, b2⟩, b3, b4⟩ := b'
    obtain ⟨t1, t2⟩ := gtx_of o b3
    have lt : (gtx es).length = es.length := by
      have := congrArg List.length t2
      rw [List.length_map] at this
      exact this.symm
    show Sq H (.ref p) (gtx es) ∧ Uss (gtx es) ∧ (gtx es).Nodup ∧ 1 ≤ (gtx es).length ∧ (gtx es).length ≤ 6
    refine ⟨⟨p, rfl, .inl (by rw [← t1]; exact h)⟩, fun x hx => ?_, ?_, by omega, by omega⟩
    · have : PyData.str x ∈ es := by rw [t2]; exact List.mem_map_of_mem hx
      have := List.all_eq_true.mp b3 _ this
      have z : (nm x && decide (x ≠ Str.ofString "root")) = true := this
      rw [Bool.and_eq_true, decide_eq_true_eq] at z
      exact ⟨Nm_of z.1, z.2⟩
    · exact once_nd (by omega)
  | _ => cases b
theorem Dct.dm {H : Hp} {a : Addr} {kvs : List (L2.Key × V)} {ks : List Str} {val : Str → V} {g : Str → PyData} (h : Dct H a kvs ks val g) (b : ∀ u ∈ ks, grB (g u) = true) : DM (Sq H) kvs (mOf ks g) ∧ Mk (mOf ks g) := by
  have ek : (mOf ks g).map (·.1) = ks := by unfold mOf; rw [List.map_map]; exact List.map_id _
  refine ⟨?_, ?_⟩
  · have hva := h.va
    have hke := h.ke
    have hnd := h.nd
    clear ek h
    unfold DM mOf
    induction ks generalizing kvs with
    | nil =>
      cases kvs with
      | nil => exact .nil
      | cons x r => cases hke
    | cons u r ih =>
      cases kvs with
      | nil => cases hke
      | cons x kr =>
        rw [List.map_cons, List.map_cons] at hke
        injection hke with e1 e2
        rw [List.nodup_cons] at hnd
        obtain ⟨v1, g1⟩ := hva u List.mem_cons_self
        rw [valV_pos e1] at v1
        refine .cons ⟨e1, ?_⟩ (ih (fun z hz => b z (List.mem_cons_of_mem _ hz)) (fun z hz => ?_) e2 hnd.2)
        · rw [Option.some.inj v1]
          exact (gr_sq g1 (b u List.mem_cons_self)).1
        · obtain ⟨v2, g2⟩ := hva z (List.mem_cons_of_mem _ hz)
          rw [valV_neg (by rw [e1]; exact fun y => hnd.1 (Sum.inr.inj y ▸ hz))] at v2
          exact ⟨v2, g2⟩
  · refine ⟨by rw [ek]; exact h.nd, fun e he => ?_, fun e he => ?_, by unfold mOf; rw [List.length_map]; exact h.l1, by unfold mOf; rw [List.length_map]; exact h.l6⟩
    · obtain ⟨u, hu, rfl⟩ := List.mem_map.mp he
      exact h.us u hu
    · obtain ⟨u, hu, rfl⟩ := List.mem_map.mp he
      exact (gr_sq (h.va u hu).2 (b u hu)).2
def spInit (K : PySem.W.Frag) (A : Ads) : Sp := fun vs H Q E => ∃ p dx v, vs = [.ref p, v] ∧ H p = some (.ins A.C_People dx []) ∧ ((∃ t, TyX K H v (.type t) ∧ kitB t "dict" = some false ∧ Out A.C_InvalidPeople v E H) ∨
  (∃ a kvs, v = .ref a ∧ H a = some (.dK kvs) ∧ (∀ kv ∈ kvs, keyOk kv.1 = true) ∧ usersB (kvs.map (·.1)) = false ∧ Out A.C_InvalidPeople v E H) ∨
  ∃ a kvs ks val g, v = .ref a ∧ Dct H a kvs ks val g ∧ (∀ u, fbad ks g = some u → Out A.C_InvalidPeople (val u) E H) ∧
    (fbad ks g = none → 6 < (once [] (flatM (mOf ks g))).length → OutC A.C_TooMany p (.int ((once [] (flatM (mOf ks g))).length : Nat)) E H) ∧
    (fbad ks g = none → (once [] (flatM (mOf ks g))).length ≤ 6 → ∀ H' d g' dx' ks', Keep [p] H H' → (sm (mOf ks g)).Perm (mOf ks g) → Ppl A.C_People H' p (sm (mOf ks g)) (gsOf (mOf ks g)) d g' dx' ks' → H d = none → H g' = none → Q .non H'))
theorem keep_free {H H' : Hp} {D : Addr} {o : HO} (k : Keep [] H H') (h : H D = none) : Keep [] H (upd H' D o) := fun b u e hb => by
  rw [upd_ne (ne_of_none e h)]
  exact k b u e hb
theorem RT.put {H : Hp} {D : Addr} {o o' : HO} {x : V} {xs : List Str} (r : RT H x xs) (h : H D = some o) (n : ∀ ys, o ≠ .tup ys) : RT (upd H D o') x xs := by
  obtain ⟨q, rfl, hq⟩ := r
  exact ⟨q, rfl, by rw [upd_ne (ne_of hq h fun z => n _ z.symm)]; exact hq⟩
theorem take_none {α : Type} {L : List α} {i : Nat} {x : α} (nd : L.Nodup) (h : L[i]? = some x) : x ∉ L.take i := fun hx => by
  obtain ⟨j, hj, e⟩ := List.mem_iff_getElem.mp hx
  rw [List.length_take] at hj
  rw [List.getElem_take] at e
  obtain ⟨hi, e2⟩ := List.getElem?_eq_some_iff.mp h
  have := (List.getElem?_inj hi nd).mp (h.trans (List.getElem?_eq_some_iff.mpr ⟨by omega, e⟩).symm)
  omega
theorem ok_People___init__ (T : Txt K mg A) : FnOk P w K mg base (L2.CX P w) 4 A.f_People___init__ A.d_People___init__ ["self", "members"] (spInit K A) := by
  refine T.F_People___init__.okX sc_People___init__ (fun vs H Q E h => ?_) (fun cdv A_ outer s_ H vs Q E hr h => ?_)
  · obtain ⟨p, dx, v, rfl, _⟩ := h
    rfl
  · obtain ⟨p, dx, v, rfl, hp, h⟩ := h
    refine ⟨_, (pss_cons (ps_if (pt_not (pt_val (pe_call (ok__are_users T) (hr.mono (by decide)) (by rfl) T.g__are_users T.F__are_users.kp T.B__are_users .nil pass0 (pa_cons (pv 1) pa_nil)))) (pss_one (ps_raiseLow rfl T.low_InvalidPeople hr (takes_of rfl rfl rfl rfl) (pa_cons (pv 1) pa_nil))) pss_nil)
  (pss_cons (ps_for (passes_of rfl) rfl (pi_list (pe_callB (call_sortedD rfl) (by rfl) T.b_sorted (by decide +kernel) (pa_cons (pv 1) pa_nil))) (pg_name (i := 2) sc_People___init__.nd rfl (.inl rfl)) (pss_one (ps_if (pt_not (pt_val (pe_call (ok__are_groups T) (hr.mono (by decide)) (by rfl) T.g__are_groups T.F__are_groups.kp T.B__are_groups .nil pass0 (pa_cons (pe_dget (hu_of hr) (pv 1) (pv 2) (fun _ _ => rfl)) pa_nil)))) (pss_one (ps_raiseLow rfl T.low_InvalidPeople hr (takes_of rfl rfl rfl rfl) (pa_cons (pe_dget (hu_of hr) (pv 1) (pv 2) (fun _ _ => rfl)) pa_nil))) pss_nil)))
  (pss_cons (ps_fld (pv 0) (pe_dc (own := [("user", 2)]) (g := gName 2) rfl sc_People___init__.nd (pi_list (pe_callB (call_sortedD rfl) (by rfl) T.b_sorted (by decide +kernel) (pa_cons (pv 1) pa_nil))) (blkOk_by (own := [("user", 2)]) (N := N_People___init__) (sc := defScope s_People___init__) (by decide +kernel)) (fun _ _ _ _ _ => pg_name (i := 2) sc_People___init__.nd rfl (Or.inl rfl)) (fun _ _ _ _ _ => pts_nil) (fun _ _ _ _ _ => (pv 2)) (fun _ _ _ _ _ => (pe_callTy (call_tuple_ofK (K := K) rfl) (by rfl) T.b_tuple (by decide +kernel) (pa_cons (pe_dget (hu_of hr) (pv 1) (pv 2) (fun _ _ => rfl)) pa_nil)))) rfl)
  (pss_cons (ps_fld (pv 0) (pe_callB (cr_sortSet rfl) (by rfl) T.b_sorted (by decide +kernel) (pa_cons (pe_lock (pe_sc2 (own := [("user", 2), ("group", 3)]) (vs1 := [3]) (g := gName 2) (g1 := gName 3) rfl sc_People___init__.nd (pi_keys (pe_fld (pv 0) rfl)) (blkOk_by (own := [("user", 2), ("group", 3)]) (N := N_People___init__) (sc := defScope s_People___init__) (by decide +kernel)) (by decide) (fun _ _ _ _ _ => pg_name (i := 2) sc_People___init__.nd rfl (Or.inl rfl)) (fun _ _ _ _ _ => (pi_tupK (K := K) rfl (pe_dget (hu_of hr) (pe_fldK (K := K) rfl (pv 0) (by rfl)) (pv 2) (fun _ _ => rfl)))) (fun _ _ _ _ _ => pg_name (i := 3) sc_People___init__.nd rfl (Or.inl rfl)) (fun _ _ _ _ _ => (pv 3)))) pa_nil)) rfl)
  (pss_one (ps_if (pt_cmpR op_gt (pe_callB call_len_seq (by rfl) T.b_len PySem.boot_len (pa_cons (pe_fld (pv 0) rfl) pa_nil)) (pe_gc rfl T.c_MOST_GROUPS) (nomark _)) (pss_one (ps_raiseCnt rfl T.low_TooMany hr (takes_of rfl rfl rfl rfl) (pa_cons (pe_callB call_len_seq (by rfl) T.b_len PySem.boot_len (pa_cons (pe_fld (pv 0) rfl) pa_nil)) pa_nil))) pss_nil)))))), ?_⟩
    refine ⟨_, rfl, ?_⟩
    rcases h with ⟨t, ty, kt, q⟩ | ⟨a, kvs, rfl, ha, hk, hu, q⟩ | ⟨a, kvs, ks, val, g, rfl, D, qb, qm, q⟩
    · refine .inr ⟨v, t, rfl, ty, kt, ?_⟩
      refine ⟨_, rfl, ?_⟩
      refine ifT rfl ?_
      walk_at "rd"
      exact q.new
    · refine .inl ⟨a, kvs, rfl, ha, hk, fun H1 k1 => ?_⟩
      rw [hu]
      refine ⟨_, rfl, ?_⟩
      refine ifT rfl ?_
      walk_at "rd"
      exact (q.mono k1).new
    have hu : usersB (kvs.map (·.1)) = true := by
      unfold usersB
      have l1 := D.l1
      have l6 := D.l6
      rw [D.ke, List.length_map, decide_eq_true l1, decide_eq_true l6, Bool.true_and, Bool.true_and, List.all_eq_true]
      intro k hk
      obtain ⟨u, hu, rfl⟩ := List.mem_map.mp hk
      have z := D.us u hu
      show (nm u && decide (u ≠ Str.ofString "root")) = true
      rw [nm_of z.1, decide_eq_true z.2]
      rfl
    have ha := D.hd
    refine .inl ⟨a, kvs, rfl, ha, D.ok, fun H1 k1 => ?_⟩
    rw [hu]
    refine ⟨_, rfl, ?_⟩
    refine ifF rfl ?_
    refine ⟨_, rfl, a, kvs, ks, rfl, .inl (k1 _ _ ha (by simp)), D.ke, by have := D.l6; omega, fun ys l py sy nl => ?_⟩
    refine ⟨l, rfl, ⟨_, .inl (.inl upd_same)⟩, ?_⟩
    have ey : ys = srt ks := srt_eq py sy
    have k2 : Keep [] H (upd H1 l (.lst (ys.map V.str))) := k1.trans (keep_new nl)
    have kl : ∀ H', Keep [] (upd H1 l (.lst (ys.map V.str))) H' → SqL K H' l (ys.map V.str) := fun H' k => .inl (.inl (k _ _ upd_same (by simp)))
    refine for_li (xs := ys.map V.str) (fun pre σ H' => (∃ y2 y3, σ = [some (.ref p), some (.ref a), y2, y3]) ∧ Keep [] (upd H1 l (.lst (ys.map V.str))) H' ∧ ∀ u ∈ ys.take pre.length, grB (g u) = true) ⟨⟨none, none, rfl⟩, Keep.refl, fun u h => by cases h⟩ (fun pre post σ H' _ h => kl H' h.2.1) ?_ ?_
    · rintro pre x post σ H' ex ⟨⟨y2, y3, rfl⟩, k3, pg⟩
      have hx : (ys.map V.str)[pre.length]? = some x := by rw [ex]; simp
      rw [List.getElem?_map] at hx
      obtain ⟨u, hu, rfl⟩ := Option.map_eq_some_iff.mp hx
      have hum : u ∈ ks := py.mem_iff.mp (List.mem_of_getElem? hu)
      obtain ⟨hv, hg⟩ := D.va u hum
      have k4 := k2.trans k3
      refine ⟨_, rfl, _, rfl, a, val u, rfl, .inl ⟨kvs, Sum.inr u, .inl (k4 _ _ ha (by simp)), rfl, hv.symm⟩, ?_⟩
      refine ⟨val u, g u, rfl, hg.keep k4, fun H5 k5 => ?_⟩
      cases hb : grB (g u) with
      | false =>
        refine ⟨_, rfl, ?_⟩
        refine ifT rfl ?_
        have fb : fbad ks g = some u := by
          unfold fbad
          rw [← ey]
          exact find_at hu (by rw [hb]; rfl) fun z hz => by rw [pg z hz]; rfl
        refine ⟨_, rfl, _, rfl, a, val u, rfl, .inl ⟨kvs, Sum.inr u, .inl ((k4.trans k5) _ _ ha (by simp)), rfl, hv.symm⟩, ?_⟩
        exact ⟨_, rfl, ((qb u fb).mono (k4.trans k5)).new⟩
      | true =>
        refine ⟨_, rfl, ?_⟩
        refine ifF rfl ?_
        refine ⟨⟨_, _, rfl⟩, k3.trans k5, fun z hz => ?_⟩
        rw [List.length_append, List.length_singleton, List.take_add_one, hu] at hz
        rcases List.mem_append.mp hz with hz | hz
        · exact pg z hz
        · rw [List.mem_singleton.mp hz]; exact hb
    · rintro σ H2 ⟨⟨y2, y3, rfl⟩, k3, pg⟩
      rw [List.length_map, List.take_length] at pg
      have all : ∀ u ∈ ks, grB (g u) = true := fun u hu => pg u (py.mem_iff.mpr hu)
      have fb : fbad ks g = none := by
        unfold fbad
        rw [← ey, List.find?_eq_none]
        exact fun u hu => by rw [pg u hu]; simp
      obtain ⟨dm, gd⟩ := D.dm all
      have qm := qm fb
      have q := q fb
      have ekm : ks = (mOf ks g).map (·.1) := by unfold mOf; rw [List.map_map]; exact (List.map_id _).symm
      have ks0 := D.ke
      rw [ekm] at ks0 py
      generalize hm : mOf ks g = m at *
      have ks := ks0
      have ymem : ∀ y ∈ ys, y ∈ m.map (·.1) := fun y hy => py.mem_iff.mp hy
      have k4 := k2.trans k3
      clear k2 k3 kl k1
      refine ⟨_, rfl, a, kvs, m.map (·.1), rfl, .inl (k4 _ _ ha (by simp)), ks, by rw [List.length_map]; have := gd.l6; omega, fun ys2 l2 py2 sy2 nl2 => ?_⟩
      have e2 : ys2 = ys := by rw [srt_eq py2 sy2, srt_eq py sy]
      subst e2
      clear py2 sy2
      have k5 : Keep [] H (upd H2 l2 (.lst (ys2.map V.str))) := k4.trans (keep_new nl2)
      have eM := sm_eq py sy
      have pM := sm_perm gd.nd py sy
      have gM := gd.perm pM
      have kM := sm_keys py sy
      have ynd : ys2.Nodup := py.nodup_iff.mpr gd.nd
      have h2l : (upd H2 l2 (.lst (ys2.map V.str))) l2 = some (.lst (ys2.map V.str)) := upd_same
      clear k4 nl2
      generalize upd H2 l2 (.lst (ys2.map V.str)) = H3 at k5 h2l ⊢
      refine ⟨l2, rfl, ⟨_, .inl (.inl h2l)⟩, fun D hD => ?_⟩
      have hD0 := hD
      have kD0 := k5
      refine dc_it (walk_list (xs := ys2.map V.str)) (fun i H' => ∃ ks', H' D = some (.dK ks') ∧ Keep [] H3 H' ∧ DM (RT H') ks' ((sm m).take i)) ⟨[], upd_same, keep_new hD, .nil⟩ (fun i H' _ h => ?_) (fun i x H' H4 hi h y => ?_) (fun H' h => ?_)
      · obtain ⟨_, _, k, _⟩ := h
        exact .inl (.inl (k _ _ h2l (by simp)))
      · obtain ⟨ks', hd', k6, dm'⟩ := h
        obtain ⟨rfl, hx⟩ := y
        rw [List.getElem?_map] at hx
        obtain ⟨u, hu, rfl⟩ := Option.map_eq_some_iff.mp hx
        have hum := ymem u (List.mem_of_getElem? hu)
        obtain ⟨v, hv, hq⟩ := dm.val hum
        have hMi : (sm m)[i]? = some (u, mget m u) := by rw [eM, List.getElem?_map, hu]; rfl
        have k7 := k5.trans k6
        have nin : u ∉ ((sm m).take i).map (·.1) := by
          rw [List.map_take, kM]
          exact take_none ynd hu
        have l6 : ks'.length < sizeLine := by
          refine size_ok ?_
          rw [dm'.len, List.length_take]
          have := gM.l6
          omega
        have tk : (sm m).take (i + 1) = (sm m).take i ++ [(u, mget m u)] := by rw [List.take_add_one, hMi]; rfl
        walk_at "rd"
        refine ⟨a, v, rfl, .inl ⟨kvs, Sum.inr u, .inl (k7 _ _ ha (by simp)), rfl, hv.symm⟩, ?_⟩
        obtain ⟨q', rfl, hq'⟩ := hq.keep k7
        rcases hq' with hq' | hq'
        · refine ⟨q', _, rfl, .inl ⟨.inl (.inl hq'), fun l hl => ?_⟩⟩
          have nl : l ≠ D := fun e => by rw [e, hd'] at hl; cases hl
          have hd2 : (upd H4 l (.tup ((mget m u).map V.str))) D = some (.dK ks') := by rw [upd_ne (Ne.symm nl)]; exact hd'
          obtain ⟨s1, s2⟩ := (dm'.imp fun _ _ r => (r.keep (keep_new (o := .tup ((mget m u).map V.str)) hl)).put (o' := .dK (ks' ++ [(Sum.inr u, .ref l)])) hd2 (fun _ z => by cases z)).snoc (v := .ref l) (xs := mget m u) ⟨l, rfl, by rw [upd_ne nl, upd_same]⟩ nin
          refine ⟨ks', Sum.inr u, rfl, hd2, l6, ks' ++ [(Sum.inr u, .ref l)], ?_, ?_, ?_⟩
          · rw [s1, upd_same]
          · exact keep_free (k6.trans (keep_new hl)) hD
          · rw [s1, tk]
            exact s2
        · refine ⟨q', _, rfl, .inr ⟨.inl (.inl hq'), ?_⟩⟩
          have nq : q' ≠ D := ne_of hq' hd' (fun z => by cases z)
          obtain ⟨s1, s2⟩ := (dm'.imp fun _ _ r => r.put (o' := .dK (ks' ++ [(Sum.inr u, .ref q')])) hd' (fun _ z => by cases z)).snoc (v := .ref q') (xs := mget m u) ⟨q', rfl, by rw [upd_ne nq]; exact hq'⟩ nin
          refine ⟨ks', Sum.inr u, rfl, hd', l6, ks' ++ [(Sum.inr u, .ref q')], ?_, ?_, ?_⟩
          · rw [s1, upd_same]
          · exact keep_free k6 hD
          · rw [s1, tk]
            exact s2
      · obtain ⟨ks', hd', k6, dm'⟩ := h
        rw [List.length_map] at dm'
        have lM : ys2.length = (sm m).length := by rw [eM, List.length_map]
        rw [lM, List.take_length] at dm'
        have k7 := k5.trans k6
        refine ⟨_, rfl, p, _, dx, _, rfl, k7 _ _ hp (by simp), T.cl_People, T.na_People__held, by decide, ?_⟩
        have np : p ≠ D := ne_of (k7 _ _ hp (by simp)) hd' (fun z => by cases z)
        have dm2 := dm'.imp fun _ _ r => r.put (o' := .ins A.C_People dx (putF (Str.ofString "_held") (.ref D) [])) (k7 _ _ hp (by simp)) (fun _ z => by cases z)
        have hd2 : upd H' p (.ins A.C_People dx (putF (Str.ofString "_held") (.ref D) [])) D = some (.dK ks') := by rw [upd_ne (Ne.symm np)]; exact hd'
        have hp2 : upd H' p (.ins A.C_People dx (putF (Str.ofString "_held") (.ref D) [])) p = some (.ins A.C_People dx [("_held", .ref D)]) := upd_same
        have k8 : Keep [p] H (upd H' p (.ins A.C_People dx (putF (Str.ofString "_held") (.ref D) []))) := fun b o hb nb => by
          rw [upd_ne (by simpa using nb)]
          exact k7 _ _ hb (by simp)
        generalize upd H' p (.ins A.C_People dx (putF (Str.ofString "_held") (.ref D) [])) = H5 at dm2 hd2 hp2 k8 ⊢
        clear dm' hd' k7 k6 hD h2l k5
        refine ⟨D, _, hd2, trivial, fun od => ?_⟩
        refine ⟨_, rfl, p, _, dx, _, _, rfl, (by rw [upd_ne np]; exact hp2), T.cl_People, T.na_People__held, rfl, D, od, rfl, .inl ⟨ks', upd_same, fun S hS => ?_⟩⟩
        have nSD : S ≠ D := fun e => by rw [e, upd_same] at hS; cases hS
        have nSp : p ≠ S := fun e => by rw [← e, upd_ne np, hp2] at hS; cases hS
        refine ⟨_, ⟨_, rfl, Nat.zero_le _, ?h0⟩, round_it walk_keys (fun i H' => H' = upd (upd H5 D (.frz od (.dK ks'))) S (SetS P w S (once [] (flatM ((sm m).take i))))) (fun i H' _ e => ?hG) (fun i x H6 H7 hi e y => ?hs) (fun H6 e => ?hd)⟩
        case h0 => rfl
        case hG =>
          subst e
          rw [upd_ne (Ne.symm nSD), upd_same]
        case hs =>
          subst e
          obtain ⟨rfl, k, v, hkv, rfl⟩ := y
          obtain ⟨e, he, rfl, q', rfl, h2⟩ := dm2.get hkv
          have hem := List.mem_of_getElem? he
          obtain ⟨v', hv, q', rfl, h2⟩ := dm2.val (List.mem_map_of_mem hem)
          rw [mget_mem gM.nd hem] at h2
          have nq : q' ≠ D := ne_of h2 hd2 (fun z => by cases z)
          have nqS : q' ≠ S := fun e => by rw [← e, upd_ne nq, h2] at hS; cases hS
          refine ⟨rfl, ?_⟩
          refine ⟨_, rfl, p, _, dx, _, _, rfl, (by rw [upd_ne nSp, upd_ne np]; exact hp2), T.cl_People, T.na_People__held, rfl, _, rfl, ?_⟩
          refine ⟨D, _, rfl, .inl ⟨ks', Sum.inr e.1, .inr ⟨od, by rw [upd_ne (Ne.symm nSD), upd_same]⟩, rfl, hv.symm⟩, ?_⟩
          have hq : ∀ o, SqT K (upd (upd H5 D (.frz od (.dK ks'))) S o) q' (e.2.map V.str) := fun o => .inl (.inl (by rw [upd_ne nqS, upd_ne nq]; exact h2))
          refine ⟨q', rfl, ⟨_, hq _⟩, ?_⟩
          refine ⟨_, ⟨_, rfl, Nat.zero_le _, ?h1⟩, round_it (walk_tup (xs := e.2.map V.str)) (fun j H' => H' = upd (upd H5 D (.frz od (.dK ks'))) S (SetS P w S (once [] (flatM ((sm m).take i) ++ e.2.take j)))) (fun j H' _ e => ?hG1) (fun j x H6 H7 hj e y => ?hs1) (fun H6 e => ?hd1)⟩
          case h1 =>
            show _ = upd _ S (SetS P w S (once [] (_ ++ [])))
            rw [List.append_nil]
          case hG1 =>
            subst e
            exact hq _
          case hs1 =>
            subst e
            obtain ⟨rfl, hx⟩ := y
            rw [List.getElem?_map] at hx
            obtain ⟨t, ht, rfl⟩ := Option.map_eq_some_iff.mp hx
            refine ⟨rfl, _, rfl, t, _, rfl, upd_same, ?_, ?_⟩
            · have h1 := once_len (flatM ((sm m).take i) ++ e.2.take j) []
              have h2 := flat_take_len gM i
              have h3 := (gM.gs e hem).2.2.2
              rw [List.length_append, List.length_take] at h1
              simp only [List.length_nil] at h1
              refine Nat.lt_of_le_of_lt (show _ ≤ 100 by omega) (by decide)
            · rw [upd_again, ← once_app, List.append_assoc, List.take_add_one, ht]
              rfl
          case hd1 =>
            subst e
            rw [List.length_map, List.take_length, ← flat_take he]
        case hd =>
          subst e
          refine ⟨by rw [upd_ne (Ne.symm nSD), upd_same], ?_⟩
          have lks : ks'.length = (sm m).length := dm2.len
          rw [lks, List.take_length]
          have k9 : Keep [] H5 (upd (upd (upd H5 D (.frz od (.dK ks'))) S (SetS P w S (once [] (flatM (sm m))))) D (.dK ks')) := keep_lock hd2 (keep_new hS)
          have hS9 : (upd (upd (upd H5 D (.frz od (.dK ks'))) S (SetS P w S (once [] (flatM (sm m))))) D (.dK ks')) S = some (SetS P w S (once [] (flatM (sm m)))) := by rw [upd_ne nSD, upd_same]
          generalize upd (upd (upd H5 D (.frz od (.dK ks'))) S (SetS P w S (once [] (flatM (sm m))))) D (.dK ks') = H9 at k9 hS9 ⊢
          have few : (once [] (flatM (sm m))).length ≤ 36 := Nat.le_trans (by have := once_len (flatM (sm m)) []; simpa using this) (flat_len gM)
          refine ⟨S, _, rfl, hS9, by omega, fun gs G pg sg nG => ?_⟩
          have egs : gs = gsOf m := by rw [srt_eq pg sg]; exact gs_perm pM
          have gmem : ∀ x, x ∈ gs ↔ ∃ e ∈ sm m, x ∈ e.2 := fun x => by rw [pg.mem_iff, once_mem, mem_flatM]; simp
          have gl : gs.length = (once [] (flatM m)).length := by
            rw [pg.length_eq]
            refine (once_perm fun x => ?_).length_eq
            rw [mem_flatM, mem_flatM]
            exact ⟨fun ⟨e, he, hx⟩ => ⟨e, pM.mem_iff.mp he, hx⟩, fun ⟨e, he, hx⟩ => ⟨e, pM.mem_iff.mpr he, hx⟩⟩
          have hp9 := k9 _ _ hp2 (by simp)
          have hd9 := k9 _ _ hd2 (by simp)
          have nGp : p ≠ G := fun e => by rw [← e, hp9] at nG; cases nG
          have nGD : D ≠ G := fun e => by rw [← e, hd9] at nG; cases nG
          refine ⟨_, rfl, p, _, dx, _, rfl, (by rw [upd_ne nGp]; exact hp9), T.cl_People, T.na_People__groups, (by show 1 < 1000; decide), ?_⟩
          have hp10 : (upd (upd H9 G (.lst (gs.map V.str))) p (.ins A.C_People dx (putF (Str.ofString "_groups") (.ref G) [("_held", .ref D)]))) p = some (.ins A.C_People dx [("_held", .ref D), ("_groups", .ref G)]) := upd_same
          have hG10 : (upd (upd H9 G (.lst (gs.map V.str))) p (.ins A.C_People dx (putF (Str.ofString "_groups") (.ref G) [("_held", .ref D)]))) G = some (.lst (gs.map V.str)) := by rw [upd_ne (Ne.symm nGp), upd_same]
          have hD10 : (upd (upd H9 G (.lst (gs.map V.str))) p (.ins A.C_People dx (putF (Str.ofString "_groups") (.ref G) [("_held", .ref D)]))) D = some (.dK ks') := by rw [upd_ne (Ne.symm np), upd_ne nGD]; exact hd9
          have dm10 : DM (RT (upd (upd H9 G (.lst (gs.map V.str))) p (.ins A.C_People dx (putF (Str.ofString "_groups") (.ref G) [("_held", .ref D)])))) ks' (sm m) :=
            dm2.imp fun _ _ r => ((r.keep k9).keep (keep_new nG)).put (by rw [upd_ne nGp]; exact hp9) (fun _ z => by cases z)
          have k10 : Keep [p] H (upd (upd H9 G (.lst (gs.map V.str))) p (.ins A.C_People dx (putF (Str.ofString "_groups") (.ref G) [("_held", .ref D)]))) := fun b o hb nb => by
            rw [upd_ne (by simpa using nb)]
            exact (k9.trans (keep_new nG)) _ _ (k8 _ _ hb nb) (by simp)
          generalize upd (upd H9 G (.lst (gs.map V.str))) p (.ins A.C_People dx (putF (Str.ofString "_groups") (.ref G) [("_held", .ref D)])) = H10 at hp10 hG10 hD10 dm10 k10 ⊢
          have fD : H D = none := by
            cases e : H D with
            | none => rfl
            | some o =>
              have := kD0 _ _ e (by simp)
              rw [hD0] at this
              cases this
          have fG : H G = none := by
            cases e : H G with
            | none => rfl
            | some o =>
              have := k9 _ _ (k8 _ _ e (by simpa using Ne.symm nGp)) (by simp)
              rw [nG] at this
              cases this
          refine ⟨_, rfl, p, _, dx, _, _, rfl, hp10, T.cl_People, T.na_People__groups, rfl, ?_⟩
          refine ⟨G, _, rfl, .inl (.inl (Rd.of hG10)), ?_⟩
          refine ⟨_, _, rfl, rfl, _, rfl, ?_⟩
          by_cases c : (once [] (flatM m)).length ≤ 6
          · refine ifF (decide_eq_false (by rw [List.length_map]; omega)) ?_
            exact q c H10 D G dx ks' k10 pM (by rw [← egs]; exact ⟨hp10, hD10, dm10, hG10, gM, gmem, by omega⟩) fD fG
          · refine ifT (decide_eq_true (by rw [List.length_map]; omega)) ?_
            refine ⟨_, rfl, p, _, dx, _, _, rfl, hp10, T.cl_People, T.na_People__groups, rfl, ?_⟩
            refine ⟨G, _, rfl, .inl (.inl (Rd.of hG10)), ?_⟩
            refine ⟨_, rfl, fun d hd => ?_⟩
            rw [List.length_map, gl]
            exact qm (by omega) d _ (fun b o hb nb => (keep_new hd) _ _ (k10 _ _ hb nb) (by simp)) upd_same
end
end K24
namespace K24
open PySem PySem.Spec PyProof.Rows L2 FR TL
open C8 (pss_cut pe_gc)
open StX (pe_callS2 pa_star)
theorem kitF {K : PySem.W.Frag} {t a b : Value} (h1 : PySem.W.kitOne K t a = some false) (h2 : PySem.W.kitOne K t b = some false) : PySem.W.kitAny K t [a, b] = some false := by
  unfold PySem.W.kitAny PySem.W.kitAny PySem.W.kitAny
  rw [h1, h2]
section
variable {P : Program} {w : World} {K : PySem.W.Frag} {mg : Str → Option Value} {base : Heap} {A : Ads}
set_option pp.maxSteps 200
theorem ok_People_groups (T : Txt K mg A) : FnOk P w K mg base CX0 1 A.f_People_groups A.d_People_groups ["self"] (fun vs H Q _ => ∃ p M gs, vs = [.ref p] ∧ Pp A.C_People H p M gs ∧ NewO (.lst (gs.map V.str)) Q H) := by
  refine T.F_People_groups.ok sc_People_groups (fun vs H Q E h => ?_) (fun cdv A_ outer s_ H vs Q E hr h => ?_)
  · obtain ⟨p, M, gs, rfl, _⟩ := h
    rfl
  · obtain ⟨p, M, gs, rfl, ⟨d, g, dx, kvs, h⟩, q⟩ := h
    refine ⟨_, (pss_one (ps_ret (pe_callTy call_lofN (by rfl) T.b_list (by decide +kernel) (pa_cons (pe_fld (pv 0) rfl) pa_nil)))), ?_⟩
    refine ⟨_, rfl, p, _, dx, _, _, rfl, h.ob, T.cl_People, T.na_People__groups, rfl, ?_⟩
    exact ⟨g, _, rfl, .inl (.inl (Rd.of h.hg)), q⟩
/-- what stands on the left of `in`: a text, or anything that is none -/
def spHas (C : Addr) (K : PySem.W.Frag) : Sp := fun vs H Q _ => ∃ p M gs v, vs = [.ref p, v] ∧ Pp C H p M gs ∧ ((∃ s, v = .str s ∧ Q (.bl (decide (s ∈ M.map (·.1)))) H) ∨ ∃ t, TyX K H v (.type t) ∧ kitB t "str" = some false ∧ Q (.bl false) H)
theorem ok_People___contains__ (T : Txt K mg A) : FnOk P w K mg base CX0 1 A.f_People___contains__ A.d_People___contains__ ["self", "value"] (spHas A.C_People K) := by
  refine T.F_People___contains__.ok sc_People___contains__ (fun vs H Q E h => ?_) (fun cdv A_ outer s_ H vs Q E hr h => ?_)
  · obtain ⟨p, M, gs, v, rfl, _⟩ := h
    rfl
  · obtain ⟨p, M, gs, v, rfl, ⟨d, g, dx, kvs, h⟩, q⟩ := h
    refine ⟨_, (pss_one (ps_ret (pe_and (pe_callB call_isi (by rfl) T.b_isinstance (by decide +kernel) (pa_cons (pv 1) (pa_cons (pe_bltn (v := .ty "str") rfl T.b_str (by decide +kernel) rfl) pa_nil))) (pe_one (pe_cmp (pc_din (hu_of hr) (pv 1) (pe_fld (pv 0) rfl))))))), ?_⟩
    rcases q with ⟨s, rfl, q⟩ | ⟨t, ty, k, q⟩
    · refine ⟨_, rfl, ?_⟩
      refine ⟨_, _, _, _, _, rfl, .ty _, TyX.base (.str s), kit_ty ki_str_str, ?_⟩
      refine ⟨true, rfl, ?_⟩
      rw [if_pos rfl]
      refine ⟨_, rfl, _, rfl, p, _, dx, _, _, rfl, h.ob, T.cl_People, T.na_People__held, rfl, ?_⟩
      refine ⟨d, _, rfl, .inl ⟨kvs, Sum.inr s, Rd.of h.hd, rfl, rfl⟩, ?_⟩
      have e : (valV kvs (Sum.inr s)).isSome = decide (s ∈ M.map (·.1)) := by
        by_cases c : s ∈ M.map (·.1)
        · obtain ⟨v, e, _⟩ := h.dm.val c
          rw [e, decide_eq_true c]; rfl
        · rw [h.dm.no c, decide_eq_false c]; rfl
      rw [e]
      exact q
    · refine ⟨_, rfl, ?_⟩
      refine ⟨_, _, _, _, _, rfl, .ty _, ty, kit_ty k, ?_⟩
      refine ⟨false, rfl, ?_⟩
      rw [if_neg Bool.false_ne_true]
      exact q
def OutN (C : Addr) (v : V) (E : XK) (H : Hp) : Prop := ∀ (d : Addr) (H' : Hp), Keep [] H H' → H' d = some (.xd [(("name" : Str), v)]) → E (.ref C) (some d) H'
theorem OutN.mono {C : Addr} {v : V} {E : XK} {H H' : Hp} (h : OutN C v E H) (k : Keep [] H H') : OutN C v E H' := fun d H2 k2 e => h d H2 (k.trans k2) e
theorem OutN.new {C : Addr} {v : V} {E : XK} {H : Hp} (h : OutN C v E H) : ∀ d, H d = none → E (.ref C) (some d) (upd H d (.xd [(("name" : Str), v)])) := fun d hd => h d _ (keep_new hd) upd_same
/-- no user of these people -/
def NoU (K : PySem.W.Frag) (H : Hp) (v : V) (M : Mp) : Prop := (∃ s, v = .str s ∧ s ∉ M.map (·.1)) ∨ ∃ t, TyX K H v (.type t) ∧ kitB t "str" = some false
def spNoUser (K : PySem.W.Frag) (A : Ads) : Sp := fun vs H Q E => ∃ p M gs v, vs = [.ref p, v] ∧ Pp A.C_People H p M gs ∧ NoU K H v M ∧ OutN A.C_UnknownUser v E H
theorem ok_People_groups_of (T : Txt K mg A) : FnOk P w K mg base (L2.CX P w) 2 A.f_People_groups_of A.d_People_groups_of ["self", "user"] (spNoUser K A) := by
  refine T.F_People_groups_of.okX sc_People_groups_of (fun vs H Q E h => ?_) (fun cdv A_ outer s_ H vs Q E hr h => ?_)
  · obtain ⟨p, M, gs, v, rfl, _⟩ := h
    rfl
  · obtain ⟨p, M, gs, v, rfl, ⟨d, g, dx, kvs, h⟩, nu, q⟩ := h
    refine ⟨_, (pss_cons (ps_if (pt_cmpR (op_notInI T.me_People___contains__.at_ T.me_People___contains__.fn ((ok_People___contains__ T).raw T.B_People___contains__ .nil) (hr.mono (by decide)) pass0) (pv 1) (pv 0) rfl) (pss_one (ps_raiseNam rfl T.low_UnknownUser hr (takes_of rfl rfl rfl rfl) (pa_cons (pv 1) pa_nil))) pss_nil)
  (pss_one (ps_ret (pe_callTy call_lofN (by rfl) T.b_list (by decide +kernel) (pa_cons (pe_dget (hu_of hr) (pe_fld (pv 0) rfl) (pv 1) (fun _ _ => rfl)) pa_nil))))), ?_⟩
    refine ⟨_, rfl, _, rfl, p, dx, _, rfl, h.ob, ?_⟩
    refine ⟨p, M, gs, v, rfl, ⟨d, g, dx, kvs, h⟩, ?_⟩
    rcases nu with ⟨s, rfl, hs⟩ | ⟨t, ty, kt⟩
    · refine .inl ⟨s, rfl, _, rfl, ?_⟩
      rw [decide_eq_false hs]
      refine ⟨_, rfl, ?_⟩
      refine ifT rfl ?_
      walk_at "rd"
      exact q.new
    · refine .inr ⟨t, ty, kt, _, rfl, ?_⟩
      refine ⟨_, rfl, ?_⟩
      refine ifT rfl ?_
      walk_at "rd"
      exact q.new
theorem ok_People_first_group (T : Txt K mg A) : FnOk P w K mg base (L2.CX P w) 3 A.f_People_first_group A.d_People_first_group ["self", "user"] (spNoUser K A) := by
  refine T.F_People_first_group.okX sc_People_first_group (fun vs H Q E h => ?_) (fun cdv A_ outer s_ H vs Q E hr h => ?_)
  · obtain ⟨p, M, gs, v, rfl, _⟩ := h
    rfl
  · obtain ⟨p, M, gs, v, rfl, hP, nu, q⟩ := h
    refine ⟨_, (pss_one (ps_ret (pe_ix ix_list (pe_meth (pv 0) T.cl_People T.me_People_groups_of (ok_People_groups_of T) (hr.mono (by decide)) T.B_People_groups_of .nil (pxE rfl rfl rfl rfl) (pa_cons (pv 1) pa_nil)) pe_int (fun _ _ => rfl)))), ?_⟩
    obtain ⟨d, g, dx, kvs, h⟩ := id hP
    refine ⟨_, rfl, p, dx, _, rfl, h.ob, rfl, ?_⟩
    refine ⟨_, rfl, p, M, gs, v, rfl, hP, nu, q⟩
theorem ok_People_members (T : Txt K mg A) : FnOk P w K mg base (L2.CX P w) 1 A.f_People_members A.d_People_members ["self", "group"] (fun vs H Q E => ∃ p M gs v, vs = [.ref p, v] ∧ Pp A.C_People H p M gs ∧ NInT K H v gs false ∧ OutN A.C_UnknownGroup v E H) := by
  refine T.F_People_members.okX sc_People_members (fun vs H Q E h => ?_) (fun cdv A_ outer s_ H vs Q E hr h => ?_)
  · obtain ⟨p, M, gs, v, rfl, _⟩ := h
    rfl
  · obtain ⟨p, M, gs, v, rfl, ⟨d, g, dx, kvs, h⟩, nu, q⟩ := h
    refine ⟨_, (pss_cons (ps_if (pt_cmpR (op_notInT (u65 hr)) (pv 1) (pe_fld (pv 0) rfl) rfl) (pss_one (ps_raiseNam rfl T.low_UnknownGroup hr (takes_of rfl rfl rfl rfl) (pa_cons (pv 1) pa_nil))) pss_nil)
  (pss_one (ps_ret (pe_lock (pe_lc (own := [("user", 2)]) (g := gName 2) rfl sc_People_members.nd (pi_keys (pe_fld (pv 0) rfl)) (blkOk_by (own := [("user", 2)]) (N := N_People_members) (sc := defScope s_People_members) (by decide +kernel)) (fun _ _ _ _ _ => pg_name (i := 2) sc_People_members.nd rfl (Or.inl rfl)) (fun _ _ _ _ _ => (pts_one (pt_cmpR (op_inTK (K := K) rfl (u65 hr)) (pv 1) (pe_dget (hu_of hr) (pe_fldK (K := K) rfl (pv 0) (by rfl)) (pv 2) (fun _ _ => rfl)) rfl))) (fun _ _ _ _ _ => (pv 2))))))), ?_⟩
    refine ⟨_, rfl, _, rfl, p, _, dx, _, _, rfl, h.ob, T.cl_People, T.na_People__groups, rfl, ?_⟩
    refine ⟨g, gs, false, rfl, .inl (.inl h.hg), nu, ?_⟩
    refine ⟨_, rfl, ?_⟩
    refine ifT rfl ?_
    walk_at "rd"
    exact q.new
/-- what asking for v brings -/
structure Asks (K : PySem.W.Frag) (A : Ads) (H : Hp) (p : Addr) (v : V) (way : Int) : Prop where
  u : way ≠ 2 → ∃ M gs, Pp A.C_People H p M gs ∧ NoU K H v M
  g : way = 2 → ∃ M gs, Pp A.C_People H p M gs ∧ NInT K H v gs false
def wdN (way : Int) : Str := if way = 2 then "group" else "user"
theorem ok_named (T : Txt K mg A) : FnOk P w K mg base CX0 4 A.f_named A.d_named ["_law_people", "_law_way", "_law_name"] (fun vs H Q _ => ∃ p v way, vs = [.ref p, .int way, v] ∧ 0 ≤ way ∧ way ≤ 2 ∧ Asks K A H p v way ∧ NewS (.lst [.str (wdN way), v, .bl true]) Q H) := by
  refine T.F_named.ok sc_named (fun vs H Q E h => ?_) (fun cdv A_ outer s_ H vs Q E hr h => ?_)
  · obtain ⟨p, v, way, rfl, _⟩ := h
    rfl
  · obtain ⟨p, v, way, rfl, w0, w2, as, q⟩ := h
    have W : Ow H [] H [] := Ow.start0
    refine ⟨_, (pss_cons (ps_try_asM (i := 3) rfl rfl sc_named.nd rfl rfl (fun W pn xe tk _ => (pss_one (ps_if (pt_cmpR op_eq (pv 1) pe_int (nomark _)) (pss_one (ps_expr (pe_methT (pv 0) T.cl_People T.me_People_groups_of (ok_People_groups_of T) (hr.mono (by decide)) T.B_People_groups_of (fun σ => passAt tk σ) (pa_cons (pv 2) pa_nil)))) (pss_one (ps_if (pt_cmpR op_eq (pv 1) pe_int (nomark _)) (pss_one (ps_expr (pe_methT (pv 0) T.cl_People T.me_People_first_group (ok_People_first_group T) (hr.mono (by decide)) T.B_People_first_group (fun σ => passAt tk σ) (pa_cons (pv 2) pa_nil)))) (pss_one (ps_expr (pe_methT (pv 0) T.cl_People T.me_People_members (ok_People_members T) (hr.mono (by decide)) T.B_People_members (fun σ => passAt tk σ) (pa_cons (pv 2) pa_nil)))))))))
  (ClausesOk.cons ⟨rfl, by decide, .inl T.low_UnknownUser.gC⟩ (fun a oe cls d pn hz hf => (pss_one (ps_ret (pe_lstS (pa_cons pe_str (pa_cons (pe_byNam T.low_UnknownUser hz hf (pv 3)) (pa_cons (pe_and (pe_callB (call_isH hz hf) (by rfl) T.b_isinstance (by decide +kernel) (pa_cons (pv 3) (pa_cons (pe_gc rfl T.c_MissingError) pa_nil))) (pe_one (pe_not (pe_callB (call_isH hz hf) (by rfl) T.b_isinstance (by decide +kernel) (pa_cons (pv 3) (pa_cons (pe_gc rfl T.c_UnknownGroup) pa_nil)))))) pa_nil)))))))
  (ClausesOk.cons ⟨rfl, by decide, .inl T.low_UnknownGroup.gC⟩ (fun a oe cls d pn hz hf => (pss_one (ps_ret (pe_lstS (pa_cons pe_str (pa_cons (pe_byNam T.low_UnknownGroup hz hf (pv 3)) (pa_cons (pe_and (pe_callB (call_isH hz hf) (by rfl) T.b_isinstance (by decide +kernel) (pa_cons (pv 3) (pa_cons (pe_gc rfl T.c_MissingError) pa_nil))) (pe_one (pe_not (pe_callB (call_isH hz hf) (by rfl) T.b_isinstance (by decide +kernel) (pa_cons (pv 3) (pa_cons (pe_gc rfl T.c_RightsError) pa_nil)))))) pa_nil)))))))
  ClausesOk.nil)))
  (pss_one (ps_ret (pe_lstS (pa_cons pe_str pa_nil))))), ?_⟩
    walk_at "rd"
    refine ifVI (fun c0 => ?_) (fun c0 => ?_)
    · obtain ⟨M, gs, hP, nu⟩ := as.u (by omega)
      obtain ⟨d, g, dx, kvs, h⟩ := id hP
      walk_at "rd"
      refine ⟨p, dx, _, rfl, h.ob, rfl, ?_⟩
      walk_at "rd"
      refine ⟨p, M, gs, v, rfl, hP, nu, fun d1 H1 k1 e1 => ?_⟩
      rw [show wdN way = Str.ofString "user" from if_neg (by omega)] at q
      refine ⟨true, T.low_UnknownUser.te, fun _ a0 ha => ?_, fun z => Bool.noConfusion z⟩
      have W1 := W.call0 k1
      walk_at "rd"
      refine ⟨d1, v, rfl, e1, ?_⟩
      walk_at "rd"
      refine ⟨_, _, _, _, ⟨rfl, T.ec_UnknownUser, d1, _, rfl, e1⟩, rfl, .own _, T.kit_UnknownUser_MissingError, ?_⟩
      walk_at "rd"
      refine ⟨_, _, _, _, ⟨rfl, T.ec_UnknownUser, d1, _, rfl, e1⟩, rfl, .own _, T.kit_UnknownUser_UnknownGroup, ?_⟩
      walk_at "rd"
      rename_i p3 H3 np3 sp3 kp3 hp3 W3
      exact q.to p3 H3 (k1.free np3) sp3 W3.keep hp3
    walk_at "rd"
    refine ifVI (fun c1 => ?_) (fun c1 => ?_)
    · obtain ⟨M, gs, hP, nu⟩ := as.u (by omega)
      obtain ⟨d, g, dx, kvs, h⟩ := id hP
      walk_at "rd"
      refine ⟨p, dx, _, rfl, h.ob, rfl, ?_⟩
      walk_at "rd"
      refine ⟨p, M, gs, v, rfl, hP, nu, fun d1 H1 k1 e1 => ?_⟩
      rw [show wdN way = Str.ofString "user" from if_neg (by omega)] at q
      refine ⟨true, T.low_UnknownUser.te, fun _ a0 ha => ?_, fun z => Bool.noConfusion z⟩
      have W1 := W.call0 k1
      walk_at "rd"
      refine ⟨d1, v, rfl, e1, ?_⟩
      walk_at "rd"
      refine ⟨_, _, _, _, ⟨rfl, T.ec_UnknownUser, d1, _, rfl, e1⟩, rfl, .own _, T.kit_UnknownUser_MissingError, ?_⟩
      walk_at "rd"
      refine ⟨_, _, _, _, ⟨rfl, T.ec_UnknownUser, d1, _, rfl, e1⟩, rfl, .own _, T.kit_UnknownUser_UnknownGroup, ?_⟩
      walk_at "rd"
      rename_i p3 H3 np3 sp3 kp3 hp3 W3
      exact q.to p3 H3 (k1.free np3) sp3 W3.keep hp3
    · obtain ⟨M, gs, hP, nu⟩ := as.g (by omega)
      obtain ⟨d, g, dx, kvs, h⟩ := id hP
      walk_at "rd"
      refine ⟨p, dx, _, rfl, h.ob, rfl, ?_⟩
      walk_at "rd"
      refine ⟨p, M, gs, v, rfl, hP, nu, fun d1 H1 k1 e1 => ?_⟩
      rw [show wdN way = Str.ofString "group" from if_pos (by omega)] at q
      refine ⟨false, T.exm_UnknownGroup_UnknownUser, fun z => Bool.noConfusion z, fun _ => ?_⟩
      refine ⟨true, T.low_UnknownGroup.te, fun _ a0 ha => ?_, fun z => Bool.noConfusion z⟩
      have W1 := W.call0 k1
      walk_at "rd"
      refine ⟨d1, v, rfl, e1, ?_⟩
      walk_at "rd"
      refine ⟨_, _, _, _, ⟨rfl, T.ec_UnknownGroup, d1, _, rfl, e1⟩, rfl, .own _, T.kit_UnknownGroup_MissingError, ?_⟩
      walk_at "rd"
      refine ⟨_, _, _, _, ⟨rfl, T.ec_UnknownGroup, d1, _, rfl, e1⟩, rfl, .own _, T.kit_UnknownGroup_RightsError, ?_⟩
      walk_at "rd"
      rename_i p3 H3 np3 sp3 kp3 hp3 W3
      exact q.to p3 H3 (k1.free np3) sp3 W3.keep hp3
/-- the verdict on what is handed in: what is wrong, and with what -/
inductive Ver (K : PySem.W.Frag) (A : Ads) (H : Hp) (v : V) : Nat → V → Prop
  | odd (t : String) : TyX K H v (.type t) → kitB t "dict" = some false → Ver K A H v 0 v
  | whole (a : Addr) (kvs : List (L2.Key × V)) : v = .ref a → H a = some (.dK kvs) → (∀ kv ∈ kvs, keyOk kv.1 = true) → usersB (kvs.map (·.1)) = false → Ver K A H v 0 v
  | value (a : Addr) (kvs : List (L2.Key × V)) (ks : List Str) (val : Str → V) (g : Str → PyData) (u : Str) : v = .ref a → Dct H a kvs ks val g → fbad ks g = some u → Ver K A H v 0 (val u)
  | many (a : Addr) (kvs : List (L2.Key × V)) (ks : List Str) (val : Str → V) (g : Str → PyData) : v = .ref a → Dct H a kvs ks val g → fbad ks g = none → 6 < (once [] (flatM (mOf ks g))).length → Ver K A H v 1 (.int ((once [] (flatM (mOf ks g))).length : Nat))
  | good (a : Addr) (kvs : List (L2.Key × V)) (ks : List Str) (val : Str → V) (g : Str → PyData) : v = .ref a → Dct H a kvs ks val g → fbad ks g = none → (once [] (flatM (mOf ks g))).length ≤ 6 → Ver K A H v 2 .non
def tL (n : Nat) (b : V) : List V := if n = 0 then [.str (Str.ofString "people"), b, .bl true] else if n = 1 then [.str (Str.ofString "many"), b, .bl true] else [.str (Str.ofString "good"), .bl true]
theorem Dct.keep {H H' : Hp} {a : Addr} {kvs : List (L2.Key × V)} {ks : List Str} {val : Str → V} {g : Str → PyData} (h : Dct H a kvs ks val g) (k : Keep [] H H') : Dct H' a kvs ks val g :=
  ⟨k _ _ h.hd (by simp), h.ke, h.ok, h.nd, h.us, h.l1, h.l6, fun u hu => ⟨(h.va u hu).1, (h.va u hu).2.keep k⟩⟩
theorem ok_tried (T : Txt K mg A) : FnOk P w K mg base CX0 7 A.f_tried A.d_tried ["_law_members"] (fun vs H Q _ => ∃ v n b, vs = [v] ∧ Ver K A H v n b ∧ (∀ t, TyX K H v t → ∀ H', Keep [] H H' → TyX K H' v t) ∧ NewS (.lst (tL n b)) Q H) := by
  refine T.F_tried.ok sc_tried (fun vs H Q E h => ?_) (fun cdv A_ outer s_ H vs Q E hr h => ?_)
  · obtain ⟨v, n, b, rfl, _⟩ := h
    rfl
  · obtain ⟨v, n, b, rfl, ve, tk, q⟩ := h
    have W : Ow H [] H [] := Ow.start0
    refine ⟨_, (pss_cons (ps_try_asM (i := 1) rfl rfl sc_tried.nd rfl rfl (fun W pn xe tk _ => (pss_one (ps_expr (pe_makeS T.mk_People (ok_People___init__ T) (hr.mono (by decide)) (by rfl) T.gC_People T.B_People___init__ (fun σ => passAt tk σ) (pa_cons (pv 0) pa_nil)))))
  (ClausesOk.cons ⟨rfl, by decide, .inl T.low_InvalidPeople.gC⟩ (fun a oe cls d pn hz hf => (pss_one (ps_ret (pe_lstS (pa_cons pe_str (pa_cons (pe_byLow T.low_InvalidPeople hz hf (pv 1)) (pa_cons (pe_and (pe_callB (call_isH hz hf) (by rfl) T.b_isinstance (by decide +kernel) (pa_cons (pv 1) (pa_cons (pe_gc rfl T.c_RightsError) pa_nil))) (pe_one (pe_not (pe_callB (call_isHT hz hf) (by rfl) T.b_isinstance (by decide +kernel) (pa_cons (pv 1) (pa_cons (pe_tupN (pa_cons (pe_gc rfl T.c_MissingError) (pa_cons (pe_gc rfl T.c_TooMany) pa_nil))) pa_nil)))))) pa_nil)))))))
  (ClausesOk.cons ⟨rfl, by decide, .inl T.low_TooMany.gC⟩ (fun a oe cls d pn hz hf => (pss_one (ps_ret (pe_lstS (pa_cons pe_str (pa_cons (pe_byCnt T.low_TooMany hz hf (pv 1)) (pa_cons (pe_and (pe_callB (call_isH hz hf) (by rfl) T.b_isinstance (by decide +kernel) (pa_cons (pv 1) (pa_cons (pe_gc rfl T.c_RightsError) pa_nil))) (pe_one (pe_not (pe_callB (call_isH hz hf) (by rfl) T.b_isinstance (by decide +kernel) (pa_cons (pv 1) (pa_cons (pe_gc rfl T.c_RefusedError) pa_nil)))))) pa_nil)))))))
  ClausesOk.nil)))
  (pss_one (ps_ret (pe_lstS (pa_cons pe_str (pa_cons pe_bl pa_nil)))))), ?_⟩
    walk_at "rd"
    intro x dx hx hdx hne
    have k2 : Keep [] H (upd (upd H dx (.own x)) x (.ins A.C_People dx [])) := fun b u e _ => by
      rw [upd_ne (ne_of_none e hx), upd_ne (ne_of_none e hdx)]
      exact e
    refine ⟨x, dx, v, rfl, upd_same, ?_⟩
    cases ve with
    | odd t ty kt =>
      refine .inl ⟨t, tk _ ty _ k2, kt, fun d H1 k1 e1 => ?_⟩
      have K1 := k2.trans k1
      refine ⟨true, T.low_InvalidPeople.te, fun _ a0 ha0 => ?_, fun z => Bool.noConfusion z⟩
      have W1 := W.call0 K1
      walk_at "rd"
      refine ⟨d, _, rfl, e1, ?_⟩
      walk_at "rd"
      refine ⟨_, _, _, _, ⟨rfl, T.ec_InvalidPeople, d, _, rfl, e1⟩, rfl, .own _, T.kit_InvalidPeople_RightsError, ?_⟩
      walk_at "rd"
      rename_i tp H2 np2 kp2 hp2 W2
      refine ⟨_, tp, _, _, false, ⟨rfl, T.ec_InvalidPeople, d, _, rfl, kp2 _ _ e1 (by simp)⟩, rfl, hp2, .cons (.own _) (.cons (.own _) .nil), kitF T.kit_InvalidPeople_MissingError T.kit_InvalidPeople_TooMany, ?_⟩
      walk_at "rd"
      rename_i p3 H3 np3 sp3 kp3 hp3 W3
      exact q.to p3 H3 ((K1.trans kp2).free np3) sp3 W3.keep hp3
    | whole a kvs ev ha hk hu =>
      refine .inr (.inl ⟨a, kvs, ev, k2 _ _ ha (by simp), hk, hu, fun d H1 k1 e1 => ?_⟩)
      have K1 := k2.trans k1
      refine ⟨true, T.low_InvalidPeople.te, fun _ a0 ha0 => ?_, fun z => Bool.noConfusion z⟩
      have W1 := W.call0 K1
      walk_at "rd"
      refine ⟨d, _, rfl, e1, ?_⟩
      walk_at "rd"
      refine ⟨_, _, _, _, ⟨rfl, T.ec_InvalidPeople, d, _, rfl, e1⟩, rfl, .own _, T.kit_InvalidPeople_RightsError, ?_⟩
      walk_at "rd"
      rename_i tp H2 np2 kp2 hp2 W2
      refine ⟨_, tp, _, _, false, ⟨rfl, T.ec_InvalidPeople, d, _, rfl, kp2 _ _ e1 (by simp)⟩, rfl, hp2, .cons (.own _) (.cons (.own _) .nil), kitF T.kit_InvalidPeople_MissingError T.kit_InvalidPeople_TooMany, ?_⟩
      walk_at "rd"
      rename_i p3 H3 np3 sp3 kp3 hp3 W3
      exact q.to p3 H3 ((K1.trans kp2).free np3) sp3 W3.keep hp3
    | value a kvs ks val g u ev D fb =>
      refine .inr (.inr ⟨a, kvs, ks, val, g, ev, D.keep k2, fun u' hu' => ?_, fun z => (by rw [fb] at z; cases z), fun z => (by rw [fb] at z; cases z)⟩)
      rw [fb] at hu'
      cases hu'
      intro d H1 k1 e1
      have K1 := k2.trans k1
      refine ⟨true, T.low_InvalidPeople.te, fun _ a0 ha0 => ?_, fun z => Bool.noConfusion z⟩
      have W1 := W.call0 K1
      walk_at "rd"
      refine ⟨d, _, rfl, e1, ?_⟩
      walk_at "rd"
      refine ⟨_, _, _, _, ⟨rfl, T.ec_InvalidPeople, d, _, rfl, e1⟩, rfl, .own _, T.kit_InvalidPeople_RightsError, ?_⟩
      walk_at "rd"
      rename_i tp H2 np2 kp2 hp2 W2
      refine ⟨_, tp, _, _, false, ⟨rfl, T.ec_InvalidPeople, d, _, rfl, kp2 _ _ e1 (by simp)⟩, rfl, hp2, .cons (.own _) (.cons (.own _) .nil), kitF T.kit_InvalidPeople_MissingError T.kit_InvalidPeople_TooMany, ?_⟩
      walk_at "rd"
      rename_i p3 H3 np3 sp3 kp3 hp3 W3
      exact q.to p3 H3 ((K1.trans kp2).free np3) sp3 W3.keep hp3
    | many a kvs ks val g ev D fb lt =>
      refine .inr (.inr ⟨a, kvs, ks, val, g, ev, D.keep k2, fun u' hu' => (by rw [fb] at hu'; cases hu'), fun _ _ d H1 k1 e1 => ?_, fun _ z => absurd lt (by omega)⟩)
      have K1 : Keep [] H H1 := fun b u e _ => by
        refine k1 _ _ (k2 _ _ e (by simp)) ?_
        have := ne_of_none e hx
        simpa using this
      refine ⟨false, T.exm_TooMany_InvalidPeople, fun z => Bool.noConfusion z, fun _ => ?_⟩
      refine ⟨true, T.low_TooMany.te, fun _ a0 ha0 => ?_, fun z => Bool.noConfusion z⟩
      have W1 := W.call0 K1
      walk_at "rd"
      refine ⟨d, _, rfl, e1, ?_⟩
      walk_at "rd"
      refine ⟨_, _, _, _, ⟨rfl, T.ec_TooMany, d, _, rfl, e1⟩, rfl, .own _, T.kit_TooMany_RightsError, ?_⟩
      walk_at "rd"
      refine ⟨_, _, _, _, ⟨rfl, T.ec_TooMany, d, _, rfl, e1⟩, rfl, .own _, T.kit_TooMany_RefusedError, ?_⟩
      walk_at "rd"
      rename_i p3 H3 np3 sp3 kp3 hp3 W3
      exact q.to p3 H3 (K1.free np3) sp3 W3.keep hp3
    | good a kvs ks val g ev D fb le =>
      refine .inr (.inr ⟨a, kvs, ks, val, g, ev, D.keep k2, fun u' hu' => (by rw [fb] at hu'; cases hu'), fun _ z => absurd z (by omega), fun _ _ H1 d g' dx' ks' k1 _ _ _ _ => ⟨rfl, ?_⟩⟩)
      have K1 : Keep [] H H1 := fun b u e _ => by
        refine k1 _ _ (k2 _ _ e (by simp)) ?_
        have := ne_of_none e hx
        simpa using this
      have W1 := W.call0 K1
      walk_at "rd"
      rename_i p3 H3 np3 sp3 kp3 hp3 W3
      exact q.to p3 H3 (K1.free np3) sp3 W3.keep hp3
end
end K24
namespace K24
open PySem PySem.Spec PyProof.Rows L2 FR TL
open C8 (pss_cut pe_gc)
open StX (pe_callS2 pa_star)
theorem filt_asc {p : Nat → Bool} {s : Str} (a : Asc s) : ∀ c ∈ (tl s).filter p, c < 128 := fun c hc => a c (List.mem_filter.mp hc).1
theorem sgn_lt (c d : Nat) : decide ((⟨#[c]⟩ : Str).cps.toList < (⟨#[d]⟩ : Str).cps.toList) = decide (c < d) := by
  refine decide_eq_decide.mpr ?_
  show [c] < [d] ↔ c < d
  rw [List.cons_lt_cons_iff]
  simp
theorem lt_a (d : Nat) : decide ((⟨#[d]⟩ : Str).cps.toList < (Str.ofString "a").cps.toList) = decide (d < 97) := by
  rw [show Str.ofString "a" = ⟨#[97]⟩ by decide +kernel]
  exact sgn_lt d 97
theorem gt_z (d : Nat) : decide ((Str.ofString "z").cps.toList < (⟨#[d]⟩ : Str).cps.toList) = decide (122 < d) := by
  rw [show Str.ofString "z" = ⟨#[122]⟩ by decide +kernel]
  exact sgn_lt 122 d
section
variable {P : Program} {w : World} {K : PySem.W.Frag} {mg : Str → Option Value} {base : Heap} {A : Ads}
set_option pp.maxSteps 200
theorem ok_l_is_name (T : Txt K mg A) : FnOk P w K mg base CX0 1 A.f_l_is_name A.d_l_is_name ["_law_thing"] (fun vs H Q _ => ∃ v e, vs = [v] ∧ Od H v e ∧ ∀ H', Keep [] H H' → Q (.bl (usD e)) H') := by
  refine T.F_l_is_name.ok sc_l_is_name (fun vs H Q E h => ?_) (fun cdv A_ outer s_ H vs Q E hr h => ?_)
  · obtain ⟨v, e, rfl, _⟩ := h
    rfl
  · obtain ⟨v, e, rfl, he, q⟩ := h
    refine ⟨_, (pss_cons (ps_if (PW.pt (pw_or (pt_not (pt_val (pe_callB call_isi (by rfl) T.b_isinstance (by decide +kernel) (pa_cons (pv 0) (pa_cons (pe_bltn (v := .ty "str") rfl T.b_str (by decide +kernel) rfl) pa_nil))))) (pw_or (pt_cmpR op_eq (pv 0) pe_str (nomark _)) (pw_or1 (pt_not (pt_chain op_le op_le pe_int (pe_callB call_len_str (by rfl) T.b_len PySem.boot_len (pa_cons (pv 0) pa_nil)) pe_int)))))) (pss_one (ps_ret pe_bl)) pss_nil)
  (pss_one (ps_ret (pe_cmpR (op_eqD hr.units) (pe_lc (own := [("_law_sign", 1)]) (g := gName 1) rfl sc_l_is_name.nd (pi_str (pv 0)) (blkOk_by (own := [("_law_sign", 1)]) (N := N_l_is_name) (sc := defScope s_l_is_name) (by decide +kernel)) (fun _ _ _ _ _ => pg_name (i := 1) sc_l_is_name.nd rfl (Or.inl rfl)) (fun _ _ _ _ _ => (pts_one (PW.pt (pw_or (pt_cmpR op_lt_str (pv 1) pe_str (nomark _)) (pw_or1 (pt_cmpR op_gt_str (pv 1) pe_str (nomark _))))))) (fun _ _ _ _ _ => (pv 1))) (pe_lstS pa_nil) (nomark _))))), ?_⟩
    have hk := kit_str e
    have ty : TyX K H v (.type (tyN e)) := he.o.ty
    obtain ⟨⟨hs, hB⟩, ha⟩ := id he
    cases hs with
    | str s =>
      have hl := okB_len hB
      have hz : s.length ≤ sizeLine := size_le (by omega)
      have asc := ascB_of ha
      have q : ∀ H', Keep [] H H' → Q (.bl (nm s && decide (s ≠ Str.ofString "root"))) H' := q
      walk_at "rd"
      refine ifQ (p := s = Str.ofString "root") (decide_eq_decide.mpr ⟨fun z => V.str.inj z, fun z => by rw [z]⟩) (fun c => ?_) (fun c => ?_)
      · walk_at "rd"
        have q' := q H Keep.refl
        rw [decide_eq_false (fun z => z c), Bool.and_false] at q'
        exact q'
      rw [decide_eq_true c, Bool.and_true] at q
      walk_at "rd"
      refine ifD (fun c1' => ?_) (fun c1' => ?_)
      · have c1 : 1 ≤ s.length := by omega
        walk_at "rd"
        by_cases c2 : s.length ≤ 8
        · refine ifF (by rw [decide_eq_true (show (s.length : Int) ≤ 8 by omega)]; rfl) ?_
          have hs0 : s ≠ Str.ofString "" := fun z => by rw [z] at c1; exact absurd c1 (by decide +kernel)
          have W : Ow H [] H [] := Ow.start0
          walk_at "rd"
          intro D hD
          refine lc_str (s := s) (fun pre H' => Ow H [] H' [(D, .lst ((sg (pre.filter (fun d => !lc d))).map V.str))]) (W.new hD) ?_ ?_
          · rintro pre d post H8 e8 W8
            have hpre : (pre.filter (fun d => !lc d)).length ≤ 400 := by
              have h1 := List.length_filter_le (fun d => !lc d) pre
              have h2 : pre.length ≤ (tl s).length := by rw [e8, List.length_append]; omega
              have h3 := len_tl s
              omega
            have hin : lc d = false → (pre ++ [d]).filter (fun d => !lc d) = pre.filter (fun d => !lc d) ++ [d] := fun h => by
              rw [List.filter_append, List.filter_cons, if_pos (by rw [h]; rfl)]; rfl
            walk_at "rd"
            refine ifQ (p := d < 97) (lt_a d) (fun c9 => ?_) (fun c9 => ?_)
            · walk_at "rd"
              refine ⟨_, W8.get 0 rfl, size_ok (by rw [List.length_map, sg_len]; omega), ?_⟩
              rw [hin (decide_eq_false (fun h => by have := h.1; have c9' : d < 97 := c9; omega)), sg_app]
              exact W8.set 0 rfl
            walk_at "rd"
            refine ifQ (p := 122 < d) (gt_z d) (fun c10 => ?_) (fun c10 => ?_)
            · walk_at "rd"
              refine ⟨_, W8.get 0 rfl, size_ok (by rw [List.length_map, sg_len]; omega), ?_⟩
              rw [hin (decide_eq_false (fun h => by have := h.2; have c10' : 122 < d := c10; omega)), sg_app]
              exact W8.set 0 rfl
            · have c9' : ¬ d < 97 := c9
              have c10' : ¬ 122 < d := c10
              rw [show (pre ++ [d]).filter (fun d => !lc d) = pre.filter (fun d => !lc d) by rw [List.filter_append, List.filter_cons, if_neg (by rw [show lc d = true from decide_eq_true ⟨by omega, by omega⟩]; decide)]; simp]
              exact W8
          · intro H9 W9
            have hfa := filt_asc (p := fun d => !lc d) asc
            have hn : nm s = decide (sg ((tl s).filter (fun d => !lc d)) = []) := by
              unfold nm
              rw [decide_eq_true ⟨hs0, c2⟩, Bool.true_and, Bool.eq_iff_iff, decide_eq_true_eq, List.all_eq_true]
              unfold sg
              rw [List.map_eq_nil_iff, List.filter_eq_nil_iff]
              simp
            walk_at "rd"
            rename_i p H10 np10 sp10 kp10 hp10 W10
            refine ⟨dStrs (sg ((tl s).filter (fun d => !lc d))), dStrs [], dp_strs (W10.sq 1 rfl), dp_strs (ws := []) (W10.sq 0 rfl), shaped_strs (sg_asc hfa), shaped_strs (by simp), ?_⟩
            rw [eqv_nil, ← hn]
            exact q H10 W10.keep
        · refine ifT (by rw [decide_eq_false (show ¬ (s.length : Int) ≤ 8 by omega)]; rfl) ?_
          have q' := q H Keep.refl
          rw [show nm s = false by unfold nm; rw [decide_eq_false (fun h => c2 h.2)]; rfl] at q'
          exact q'
      · have c1 : ¬ 1 ≤ s.length := by omega
        walk_at "rd"
        have q' := q H Keep.refl
        rw [show nm s = false by unfold nm; rw [decide_eq_false (fun h => c1 (by
          have := h.1
          rw [len_tl]
          exact List.length_pos_iff.mpr fun e => this ((empty_iff s).mpr e)))]; rfl] at q'
        exact q'
    | _ =>
      walk_at "rd"
      first
        | exact q H Keep.refl
        | (refine ⟨_, _, _, _, _, rfl, .ty _, ty, kit_ty hk, ?_⟩
           walk_at "rd"
           exact q H Keep.refl)
end
end K24
namespace K24
open PySem PySem.Spec PyProof.Rows L2 FR TL
open C8 (pss_cut pe_gc)
open StX (pe_callS2 pa_star)
section
variable {P : Program} {w : World} {K : PySem.W.Frag} {mg : Str → Option Value} {base : Heap} {A : Ads}
set_option pp.maxSteps 200
def dL (n : Nat) (b : V) : List V := if n = 0 then [.str (Str.ofString "people"), b] else if n = 1 then [.str (Str.ofString "many"), b] else [.str (Str.ofString "good")]
theorem Dct.all {H : Hp} {a : Addr} {kvs : List (L2.Key × V)} {ks : List Str} {val : Str → V} {g : Str → PyData} (D : Dct H a kvs ks val g) : usersB (kvs.map (·.1)) = true := by
  unfold usersB
  have l1 := D.l1
  have l6 := D.l6
  rw [D.ke, List.length_map, decide_eq_true l1, decide_eq_true l6, Bool.true_and, Bool.true_and, List.all_eq_true]
  intro k hk
  obtain ⟨u, hu, rfl⟩ := List.mem_map.mp hk
  have z := D.us u hu
  show (nm u && decide (u ≠ Str.ofString "root")) = true
  rw [nm_of z.1, decide_eq_true z.2]
  rfl
def cnt (ks : List Str) (g : Str → PyData) : Nat := (once [] (flatM (mOf ks g))).length
theorem Ver.split {H : Hp} {v : V} {n : Nat} {b : V} (h : Ver K A H v n b) : (∃ t, TyX K H v (.type t) ∧ kitB t "dict" = some false ∧ n = 0 ∧ b = v) ∨ ∃ a kvs, v = .ref a ∧ H a = some (.dK kvs) ∧ (∀ kv ∈ kvs, keyOk kv.1 = true) ∧
    ((usersB (kvs.map (·.1)) = false ∧ n = 0 ∧ b = .ref a) ∨ ∃ ks val g, Dct H a kvs ks val g ∧ ((∃ u, fbad ks g = some u ∧ n = 0 ∧ b = val u) ∨ (fbad ks g = none ∧ ((6 < cnt ks g ∧ n = 1 ∧ b = .int (cnt ks g : Nat)) ∨ (cnt ks g ≤ 6 ∧ n = 2))))) := by
  cases h with
  | odd t ty kt => exact .inl ⟨t, ty, kt, rfl, rfl⟩
  | whole a kvs ev ha hk hu => exact .inr ⟨a, kvs, ev, ha, hk, .inl ⟨hu, rfl, ev⟩⟩
  | value a kvs ks val g u ev D fb => exact .inr ⟨a, kvs, ev, D.hd, D.ok, .inr ⟨ks, val, g, D, .inl ⟨u, fb, rfl, rfl⟩⟩⟩
  | many a kvs ks val g ev D fb lt => exact .inr ⟨a, kvs, ev, D.hd, D.ok, .inr ⟨ks, val, g, D, .inr ⟨fb, .inl ⟨lt, rfl, rfl⟩⟩⟩⟩
  | good a kvs ks val g ev D fb le => exact .inr ⟨a, kvs, ev, D.hd, D.ok, .inr ⟨ks, val, g, D, .inr ⟨fb, .inr ⟨le, rfl⟩⟩⟩⟩
theorem flat_le {H : Hp} {zs : List Str} {kvs : List (L2.Key × V)} {val : Str → V} {g : Str → PyData} (hb : ∀ z ∈ zs, grB (g z) = true) (hg : ∀ z ∈ zs, valV kvs (Sum.inr z) = some (val z) ∧ GV H (val z) (g z)) : (flatM (mOf zs g)).length ≤ 6 * zs.length := by
  induction zs with
  | nil => exact Nat.le_refl _
  | cons z r ih =>
    have h1 := (gr_sq (hg z List.mem_cons_self).2 (hb z List.mem_cons_self)).2.2.2.2
    have h2 := ih (fun y hy => hb y (List.mem_cons_of_mem _ hy)) (fun y hy => hg y (List.mem_cons_of_mem _ hy))
    have e : flatM (mOf (z :: r) g) = gOf (g z) ++ flatM (mOf r g) := rfl
    rw [e, List.length_append, List.length_cons]
    omega
theorem ok_due (T : Txt K mg A) : FnOk P w K mg base CX0 3 A.f_due A.d_due ["_law_members"] (fun vs H Q _ => ∃ v n b, vs = [v] ∧ Ver K A H v n b ∧ NewS (.lst (dL n b)) Q H) := by
  refine T.F_due.ok sc_due (fun vs H Q E h => ?_) (fun cdv A_ outer s_ H vs Q E hr h => ?_)
  · obtain ⟨v, n, b, rfl, _⟩ := h
    rfl
  · obtain ⟨v, n, b, rfl, ve, q⟩ := h
    refine ⟨_, (pss_cons (ps_if (PW.pt (pw_or (pt_not (pt_val (pe_callB call_isi (by rfl) T.b_isinstance (by decide +kernel) (pa_cons (pv 0) (pa_cons (pe_bltn (v := .ty "dict") rfl T.b_dict (by decide +kernel) rfl) pa_nil))))) (pw_or1 (pt_not (pt_chain op_le op_le pe_int (pe_callB call_lenD (by rfl) T.b_len PySem.boot_len (pa_cons (pv 0) pa_nil)) pe_int))))) (pss_one (ps_ret (pe_lstS (pa_cons pe_str (pa_cons (pv 0) pa_nil))))) pss_nil)
  (pss_cons (ps_if (pt_cmpR (op_neNil (u65 hr)) (pe_lock (pe_lc (own := [("_law_key", 4)]) (g := gName 4) rfl sc_due.nd (pi_keys (pv 0)) (blkOk_by (own := [("_law_key", 4)]) (N := N_due) (sc := defScope s_due) (by decide +kernel)) (fun _ _ _ _ _ => pg_name (i := 4) sc_due.nd rfl (Or.inl rfl)) (fun _ _ _ _ _ => (pts_one (pt_not (pt_val (pe_call (ok_l_is_name T) (hr.mono (by decide)) (by rfl) T.g_l_is_name T.F_l_is_name.kp T.B_l_is_name .nil pass0 (pa_cons (pv 4) pa_nil)))))) (fun _ _ _ _ _ => (pv 4)))) (pe_lstS pa_nil) (nomark _)) (pss_one (ps_ret (pe_lstS (pa_cons pe_str (pa_cons (pv 0) pa_nil))))) pss_nil)
  (pss_cons (ps_set (i := 1) sc_due.nd rfl (.inl rfl) (pe_lstS pa_nil))
  (pss_cons (ps_for PassesOwn.never rfl (pi_list (pe_callB (call_sortedD rfl) (by rfl) T.b_sorted (by decide +kernel) (pa_cons (pv 0) pa_nil))) (pg_name (i := 2) sc_due.nd rfl (.inl rfl)) (pss_cons (ps_set (i := 3) sc_due.nd rfl (.inl rfl) (pe_dget (hu_of hr) (pv 0) (pv 2) (fun _ _ => rfl)))
  (pss_cons (ps_if (PW.pt (pw_or (pt_not (pt_val (pe_callB call_isiT (by rfl) T.b_isinstance (by decide +kernel) (pa_cons (pv 3) (pa_cons (pe_tupN (pa_cons (pe_bltn (v := .ty "list") rfl T.b_list (by decide +kernel) rfl) (pa_cons (pe_bltn (v := .ty "tuple") rfl T.b_tuple (by decide +kernel) rfl) pa_nil))) pa_nil))))) (pw_or1 (pt_not (pt_chain op_le op_le pe_int (pe_callB call_len_seq (by rfl) T.b_len PySem.boot_len (pa_cons (pv 3) pa_nil)) pe_int))))) (pss_one (ps_ret (pe_lstS (pa_cons pe_str (pa_cons (pv 3) pa_nil))))) pss_nil)
  (pss_cons (ps_if (pt_cmpR (op_neNil (u65 hr)) (pe_lc (own := [("_law_name", 5)]) (g := gName 5) rfl sc_due.nd (pi_list (pv 3)) (blkOk_by (own := [("_law_name", 5)]) (N := N_due) (sc := defScope s_due) (by decide +kernel)) (fun _ _ _ _ _ => pg_name (i := 5) sc_due.nd rfl (Or.inl rfl)) (fun _ _ _ _ _ => (pts_one (pt_not (pt_val (pe_call (ok_l_is_name T) (hr.mono (by decide)) (by rfl) T.g_l_is_name T.F_l_is_name.kp T.B_l_is_name .nil pass0 (pa_cons (pv 5) pa_nil)))))) (fun _ _ _ _ _ => (pv 5))) (pe_lstS pa_nil) (nomark _)) (pss_one (ps_ret (pe_lstS (pa_cons pe_str (pa_cons (pv 3) pa_nil))))) pss_nil)
  (pss_cons (ps_if (pt_cmpR op_ne (pe_lenSetS (by rfl) T.b_len (by rfl) T.b_set (pv 3)) (pe_callB call_len_seq (by rfl) T.b_len PySem.boot_len (pa_cons (pv 3) pa_nil)) (nomark _)) (pss_one (ps_ret (pe_lstS (pa_cons pe_str (pa_cons (pv 3) pa_nil))))) pss_nil)
  (pss_one (ps_set (i := 1) sc_due.nd rfl (.inl rfl) (pe_op op_catN (pv 1) (pe_callTy call_lofN (by rfl) T.b_list (by decide +kernel) (pa_cons (pv 3) pa_nil))))))))))
  (pss_cons (ps_if (pt_cmpR op_gt (pe_lenSetS (by rfl) T.b_len (by rfl) T.b_set (pv 1)) pe_int (nomark _)) (pss_one (ps_ret (pe_lstS (pa_cons pe_str (pa_cons (pe_lenSetS (by rfl) T.b_len (by rfl) T.b_set (pv 1)) pa_nil))))) pss_nil)
  (pss_one (ps_ret (pe_lstS (pa_cons pe_str pa_nil))))))))), ?_⟩
    have W : Ow H [] H [] := Ow.start0
    rcases ve.split with ⟨t, ty, kt, rfl, rfl⟩ | ⟨a, kvs, rfl, ha, hk, ve⟩
    · walk_at "rd"
      refine ⟨_, _, _, _, _, rfl, .ty _, ty, kit_ty kt, ?_⟩
      walk_at "rd"
      rename_i p3 H3 np3 sp3 kp3 hp3 W3
      exact q.to p3 H3 np3 sp3 W3.keep hp3
    have whole : ∀ H1, Keep [] H H1 → usersB (kvs.map (·.1)) = false → NewS (.lst [.str (Str.ofString "people"), .ref a]) Q H1 := fun H1 k1 hu => by
      rcases ve with ⟨_, rfl, rfl⟩ | ⟨ks, val, g, D, _⟩
      · exact NewS.mk fun p H2 np sp kp hp => q.to p H2 (k1.free np) sp (k1.trans kp) hp
      · rw [D.all] at hu; cases hu
    walk_at "rd"
    refine ⟨a, kvs, rfl, ha, _, _, rfl, rfl, ?_⟩
    have ub : usersB (kvs.map (·.1)) = (decide (1 ≤ kvs.length) && decide (kvs.length ≤ 6) && (kvs.map (·.1)).all fun k => usD (kD k)) := by unfold usersB; rw [List.length_map]
    by_cases c1 : 1 ≤ kvs.length
    case neg =>
      refine ⟨_, rfl, ifF (decide_eq_false (by omega)) ?_⟩
      refine ⟨_, rfl, ?_⟩
      refine ifT rfl ?_
      walk_at "rd"
      rename_i p3 H3 np3 sp3 kp3 hp3 W3
      exact (whole H Keep.refl (by rw [ub, decide_eq_false c1]; rfl)).to p3 H3 np3 sp3 W3.keep hp3
    refine ⟨_, rfl, ifT (decide_eq_true (by omega)) ?_⟩
    refine ⟨_, _, rfl, rfl, _, rfl, ?_⟩
    by_cases c2 : kvs.length ≤ 6
    case neg =>
      refine ifT (by rw [decide_eq_false (show ¬ (kvs.length : Int) ≤ 6 by omega)]; rfl) ?_
      walk_at "rd"
      rename_i p3 H3 np3 sp3 kp3 hp3 W3
      exact (whole H Keep.refl (by rw [ub, decide_eq_false c2, Bool.and_false]; rfl)).to p3 H3 np3 sp3 W3.keep hp3
    refine ifF (by rw [decide_eq_true (show (kvs.length : Int) ≤ 6 by omega)]; rfl) ?_
    walk_at "rd"
    refine ⟨a, _, ha, trivial, fun od => ?_⟩
    refine ⟨_, rfl, a, od, rfl, .inl ⟨kvs, upd_same, fun D hD => ?_⟩⟩
    have nD : D ≠ a := fun e => by rw [e, upd_same] at hD; cases hD
    refine lc_it walk_keys (fun i H1 => Keep [] (upd H a (.frz od (.dK kvs))) H1 ∧ H1 D = some (.lst (((kvs.take i).filter fun kv => !usD (kD kv.1)).map fun kv => kV kv.1))) ⟨keep_new hD, upd_same⟩ (fun i H1 _ e => ?_) (fun i x H1 H2 hi e y => ?_) (fun H1 e => ?_)
    · exact e.1 _ _ upd_same (by simp)
    · obtain ⟨k1, hD1⟩ := e
      obtain ⟨rfl, k, v, hkv, rfl⟩ := y
      walk_at "rd"
      refine ⟨_, kD k, rfl, key_od (hk _ (List.mem_of_getElem? hkv)), fun H3 k3 => ?_⟩
      have hD3 := k3 _ _ hD1 (by simp)
      have tk : kvs.take (i + 1) = kvs.take i ++ [(k, v)] := by rw [List.take_add_one, hkv]; rfl
      cases hu : usD (kD k) with
      | false =>
        refine ⟨_, rfl, ifT rfl ?_⟩
        walk_at "rd"
        refine ⟨_, hD3, size_ok (by rw [List.length_map]; exact Nat.le_trans (List.length_filter_le _ _) (by rw [List.length_take]; omega)), keep_free (k1.trans k3) hD, ?_⟩
        rw [upd_same, tk, List.filter_append, List.map_append, List.filter_cons, if_pos (by show (!usD (kD k)) = true; rw [hu]; rfl)]
        rfl
      | true =>
        refine ⟨_, rfl, ifF rfl ⟨k1.trans k3, ?_⟩⟩
        rw [hD3, tk, List.filter_append, List.filter_cons, if_neg (by show ¬ (!usD (kD k)) = true; rw [hu]; decide), List.filter_nil, List.append_nil]
    · obtain ⟨k1, hD1⟩ := e
      rw [List.take_length] at hD1
      refine ⟨k1 _ _ upd_same (by simp), ?_⟩
      have k2 : Keep [] H (upd H1 a (.dK kvs)) := keep_lock ha k1
      have hD2 : upd H1 a (.dK kvs) D = some (.lst ((kvs.filter fun kv => !usD (kD kv.1)).map fun kv => kV kv.1)) := by rw [upd_ne nD]; exact hD1
      generalize upd H1 a (.dK kvs) = H2 at k2 hD2 ⊢
      clear k1 hD1 hD
      refine ⟨Nat.zero_le _, NewS.mk fun e0 H3 ne se ke he => ?_⟩
      have k3 := k2.trans ke
      refine ⟨D, e0, _, rfl, rfl, .inl (.inl (ke _ _ hD2 (by simp))), .inl (.inl he), ?_⟩
      refine ⟨_, rfl, ?_⟩
      have emp : ((kvs.filter fun kv => !usD (kD kv.1)).map fun kv => kV kv.1).isEmpty = (kvs.map (·.1)).all fun k => usD (kD k) := by
        rw [Bool.eq_iff_iff, List.isEmpty_iff, List.map_eq_nil_iff, List.filter_eq_nil_iff, List.all_eq_true]
        constructor
        · intro h x hx
          obtain ⟨kv, hkv, rfl⟩ := List.mem_map.mp hx
          simpa using h kv hkv
        · intro h kv hkv
          simpa using h kv.1 (List.mem_map_of_mem hkv)
      rw [emp]
      rw [decide_eq_true c1, decide_eq_true c2, Bool.true_and, Bool.true_and] at ub
      rw [← ub]
      cases hu : usersB (kvs.map (·.1)) with
      | false =>
        refine ifT rfl ?_
        have W3 : Ow H3 [] H3 [] := Ow.start0
        walk_at "rd"
        rename_i p3 H4 np3 sp3 kp3 hp3 W4
        exact (whole H3 k3 hu).to p3 H4 np3 sp3 W4.keep hp3
      | true =>
        refine ifF rfl ?_
        rcases ve with ⟨z, _⟩ | ⟨ks, val, g, Dc, rest⟩
        · rw [hu] at z; cases z
        clear emp ub hu whole he hD2 k2 ke ne se
        have W3 : Ow H3 [] H3 [] := Ow.start0
        walk_at "rd"
        rename_i ev H4 nev sev kev hev W4
        have k4 := k3.trans kev
        have bad1 : ∀ u, fbad ks g = some u → ∀ H1, Keep [] H H1 → NewS (.lst [.str (Str.ofString "people"), val u]) Q H1 := fun u fu H1 k1 => by
          rcases rest with ⟨u', fu', rfl, rfl⟩ | ⟨f0, _⟩
          · rw [fu] at fu'
            cases fu'
            exact NewS.mk fun p H2 np sp kp hp => q.to p H2 (k1.free np) sp (k1.trans kp) hp
          · rw [fu] at f0; cases f0
        clear W3 W4
        refine ⟨a, kvs, ks, rfl, .inl (k4 _ _ ha (by simp)), Dc.ke, by have := Dc.l6; omega, fun ys l py sy nl => ?_⟩
        have ey : ys = srt ks := srt_eq py sy
        have k5 : Keep [] H (upd H4 l (.lst (ys.map V.str))) := k4.trans (keep_new nl)
        have hl5 : upd H4 l (.lst (ys.map V.str)) l = some (.lst (ys.map V.str)) := upd_same
        have hev5 : upd H4 l (.lst (ys.map V.str)) ev = some (.lst []) := by rw [upd_ne (ne_of_none hev nl)]; exact hev
        have fl : H l = none := k4.free nl
        have fev : H ev = none := k3.free nev
        generalize upd H4 l (.lst (ys.map V.str)) = H5 at k5 hl5 hev5 ⊢
        clear k4 hev kev k3 nl nev
        refine ⟨l, rfl, ⟨_, .inl (.inl hl5)⟩, ?_⟩
        refine for_li (xs := ys.map V.str) (fun pre σ H' => (∃ e1 y2 y3 y4 y5, σ = [some (.ref a), some (.ref e1), y2, y3, y4, y5] ∧ H' e1 = some (.lst ((flatM (mOf (ys.take pre.length) g)).map V.str))) ∧ Keep [] H5 H' ∧ ∀ u ∈ ys.take pre.length, grB (g u) = true) ⟨⟨ev, _, _, _, _, rfl, hev5⟩, Keep.refl, fun u h => by cases h⟩ (fun pre post σ H' _ h => .inl (.inl (h.2.1 _ _ hl5 (by simp)))) ?_ ?_
        · rintro pre x post σ H6 ex ⟨⟨e1, y2, y3, y4, y5, rfl, he1⟩, k6, pg⟩
          have hx : (ys.map V.str)[pre.length]? = some x := by rw [ex]; simp
          rw [List.getElem?_map] at hx
          obtain ⟨u, hu, rfl⟩ := Option.map_eq_some_iff.mp hx
          have hum : u ∈ ks := py.mem_iff.mp (List.mem_of_getElem? hu)
          obtain ⟨hv, hg⟩ := Dc.va u hum
          have K6 := k5.trans k6
          have fb : grB (g u) = false → fbad ks g = some u := fun hb => by
            unfold fbad
            rw [← ey]
            exact find_at hu (by rw [hb]; rfl) fun z hz => by rw [pg z hz]; rfl
          refine ⟨_, rfl, _, rfl, a, val u, rfl, .inl ⟨kvs, Sum.inr u, .inl (K6 _ _ ha (by simp)), rfl, hv.symm⟩, ?_⟩
          have hg6 := hg.keep K6
          clear hx ex
          have W6 : Ow H6 [] H6 [] := Ow.start0
          walk_at "rd"
          rename_i tp H7 np7 kp7 hp7 W7
          refine ⟨_, tp, _, _, _, isSq (g u), rfl, hp7, .cons (ClsV.ty _) (.cons (ClsV.ty _) .nil), (hg6.keep kp7).ty, kit_sq _, ?_⟩
          have K7 := K6.trans kp7
          have he7 := kp7 _ _ he1 (by simp)
          have hg7 := hg6.keep kp7
          have bad2 : grB (g u) = false → NewS (.lst [.str (Str.ofString "people"), val u]) Q H7 := fun hb => bad1 u (fb hb) H7 K7
          have nxt : grB (g u) = true → ∀ H8 e2, Keep [] H7 H8 → H8 e2 = some (.lst ((flatM (mOf (ys.take pre.length) g)).map V.str ++ (gOf (g u)).map V.str)) → ∀ z4 z5 : Option V, (∃ e1 y2 y3 y4 y5, [some (V.ref a), some (.ref e2), some (.str u), some (val u), z4, z5] = [some (.ref a), some (.ref e1), y2, y3, y4, y5] ∧ H8 e1 = some (.lst ((flatM (mOf (ys.take (pre ++ [V.str u]).length) g)).map V.str))) ∧ Keep [] H5 H8 ∧ ∀ z ∈ ys.take (pre ++ [V.str u]).length, grB (g z) = true := fun hb H8 e2 k8 he z4 z5 => by
            rw [List.length_append, List.length_singleton, List.take_add_one, hu]
            refine ⟨⟨e2, _, _, _, _, rfl, ?_⟩, (k6.trans kp7).trans k8, fun z hz => ?_⟩
            · rw [he]
              unfold mOf
              rw [List.map_append, ← List.map_append]
              unfold flatM
              simp
            · rcases List.mem_append.mp hz with hz | hz
              · exact pg z hz
              · rw [List.mem_singleton.mp hz]; exact hb
          clear bad1 fb hg6 W7 W6 hg
          generalize g u = e at hg7 bad2 nxt ⊢
          generalize val u = v at hg7 bad2 nxt ⊢
          have W7 : Ow H7 [] H7 [] := Ow.start0
          cases hg7 with
          | tup h =>
            refine ⟨_, rfl, ?_⟩
            refine ifF rfl ?_
            refine ⟨_, rfl, _, [], rfl, .inr (.inl (.of h)), ?_⟩
            refine ⟨_, _, rfl, rfl, _, rfl, ifF (by decide) ?_⟩
            refine ⟨_, rfl, ?_⟩
            refine ifT rfl ?_
            walk_at "rd"
            rename_i p3 H8 np3 sp3 kp3 hp3 W8
            exact (bad2 rfl).to p3 H8 np3 sp3 kp3 hp3
          | @lst q vs es h s o l =>
            have lv : vs.length = es.length := Paired.length o
            have gd : grB (.list es) = (decide (1 ≤ es.length) && decide (es.length ≤ 6) && (es.all usD && decide (es.length = (once [] (gtx es)).length))) := rfl
            refine ⟨_, rfl, ?_⟩
            refine ifF rfl ?_
            refine ⟨_, rfl, _, _, rfl, .inl (.inl (.inl h)), ?_⟩
            rw [lv]
            refine ⟨_, _, rfl, rfl, ?_⟩
            by_cases c3 : 1 ≤ es.length
            case neg =>
              refine ⟨_, rfl, ifF (decide_eq_false (by omega)) ?_⟩
              refine ⟨_, rfl, ?_⟩
              refine ifT rfl ?_
              walk_at "rd"
              rename_i p3 H8 np3 sp3 kp3 hp3 W8
              exact (bad2 (by rw [gd, decide_eq_false c3]; rfl)).to p3 H8 np3 sp3 kp3 hp3
            refine ⟨_, rfl, ifT (decide_eq_true (by omega)) ?_⟩
            refine ⟨_, _, rfl, rfl, _, rfl, ?_⟩
            by_cases c4 : es.length ≤ 6
            case neg =>
              refine ifT (by rw [decide_eq_false (show ¬ (es.length : Int) ≤ 6 by omega)]; rfl) ?_
              walk_at "rd"
              rename_i p3 H8 np3 sp3 kp3 hp3 W8
              exact (bad2 (by rw [gd, decide_eq_false c4, Bool.and_false]; rfl)).to p3 H8 np3 sp3 kp3 hp3
            refine ifF (by rw [decide_eq_true (show (es.length : Int) ≤ 6 by omega)]; rfl) ?_
            rw [decide_eq_true c3, decide_eq_true c4, Bool.true_and, Bool.true_and] at gd
            walk_at "rd"
            refine ⟨⟨_, .inl (.inl h)⟩, fun D2 hD2 => ?_⟩
            refine lc_it (walk_list (xs := vs)) (fun i H1 => Keep [] H7 H1 ∧ ∃ xs, H1 D2 = some (.lst xs) ∧ xs.length ≤ i ∧ (xs.isEmpty = (es.take i).all usD)) ⟨keep_new hD2, [], upd_same, Nat.le_refl _, rfl⟩ (fun i H1 _ e => ?_) (fun i x H1 H2 hi e y => ?_) (fun H1 e => ?_)
            · exact .inl (Rd.of (e.1 _ _ h (by simp)))
            · obtain ⟨k1, xs, hx1, lx, ex⟩ := e
              obtain ⟨rfl, hx⟩ := y
              obtain ⟨e, he, ho⟩ := paired_get o hx
              walk_at "rd"
              refine ⟨x, e, rfl, ho.keep k1, fun H3 k3 => ?_⟩
              have hx3 := k3 _ _ hx1 (by simp)
              cases hb : usD e with
              | false =>
                refine ⟨_, rfl, ifT rfl ?_⟩
                walk_at "rd"
                refine ⟨xs, hx3, size_ok (by omega), keep_free (k1.trans k3) hD2, xs ++ [x], upd_same, by rw [List.length_append, List.length_singleton]; omega, ?_⟩
                rw [List.take_add_one, he, List.all_append]
                simp [hb]
              | true =>
                refine ⟨_, rfl, ifF rfl ⟨k1.trans k3, xs, hx3, by omega, ?_⟩⟩
                rw [List.take_add_one, he, List.all_append, ex]
                simp [hb]
            · obtain ⟨k1, xs, hx1, lx, ex⟩ := e
              rw [lv, List.take_length] at ex
              refine ⟨Nat.zero_le _, NewS.mk fun e0 H8 ne se ke he0 => ?_⟩
              have k8 := k1.trans ke
              refine ⟨D2, e0, _, rfl, rfl, .inl (.inl (ke _ _ hx1 (by simp))), .inl (.inl he0), ?_⟩
              refine ⟨_, rfl, ?_⟩
              rw [ex]
              have W8 : Ow H8 [] H8 [] := Ow.start0
              cases hu : es.all usD with
              | false =>
                refine ifT rfl ?_
                walk_at "rd"
                rename_i p3 H9 np3 sp3 kp3 hp3 W9
                exact (bad2 (by rw [gd, hu]; rfl)).to p3 H9 (k8.free np3) sp3 (k8.trans kp3) hp3
              | true =>
                rw [hu, Bool.true_and] at gd
                refine ifF rfl ?_
                obtain ⟨t1, t2⟩ := gtx_of o hu
                have lt : (gtx es).length = es.length := by
                  have := congrArg List.length t2
                  rw [List.length_map] at this
                  exact this.symm
                have h8 := k8 _ _ h (by simp)
                have tx : TxSq K H8 (.ref q) (gtx es) := ⟨q, rfl, .inl (.inl (.inl (by rw [← t1]; exact h8)))⟩
                walk_at "rd"
                refine ⟨_, tx, by omega, ?_⟩
                refine ⟨_, rfl, _, _, rfl, .inl (.inl (.inl h8)), ?_⟩
                refine ⟨rfl, _, rfl, ?_⟩
                by_cases c5 : es.length = (once [] (gtx es)).length
                case neg =>
                  refine ifT (by rw [decide_eq_false (fun z => c5 (by have := V.int.inj z; omega))]; rfl) ?_
                  walk_at "rd"
                  rename_i p3 H9 np3 sp3 kp3 hp3 W9
                  exact (bad2 (by rw [gd, decide_eq_false c5])).to p3 H9 (k8.free np3) sp3 (k8.trans kp3) hp3
                refine ifF (by rw [decide_eq_true (show V.int (((once [] (gtx es)).length : Nat) : Int) = V.int ((vs.length : Nat) : Int) by rw [lv, ← c5])]; rfl) ?_
                refine ⟨_, rfl, _, rfl, q, _, rfl, .inl (.inl (Rd.of h8)), NewO.mk fun l2 H9 n9 k9 h9 => ?_⟩
                have k79 := k8.trans k9
                have he9 := k79 _ _ he7 (by simp)
                refine ⟨e1, l2, _, _, rfl, rfl, he9, h9, size_le (by
                  have h1 := flat_le pg (fun z hz => Dc.va z (py.mem_iff.mp (List.mem_of_mem_take hz)))
                  have h2 := Dc.l6
                  have h3 : (ys.take pre.length).length ≤ 6 := by
                    have := py.length_eq
                    rw [List.length_take]
                    omega
                  rw [List.length_map]
                  omega), NewO.mk fun e2 H10 n10 k10 h10 => ?_⟩
                refine nxt (by rw [gd, decide_eq_true c5]) H10 e2 (k79.trans k10) ?_ _ _
                rw [h10, t1]
                rfl
          | _ =>
            refine ⟨_, rfl, ?_⟩
            refine ifT rfl ?_
            walk_at "rd"
            rename_i p3 H8 np3 sp3 kp3 hp3 W8
            exact (bad2 rfl).to p3 H8 np3 sp3 kp3 hp3
        · rintro σ H6 ⟨⟨e1, y2, y3, y4, y5, rfl, he1⟩, k6, pg⟩
          rw [List.length_map, List.take_length] at pg he1
          have all : ∀ u ∈ ks, grB (g u) = true := fun u hu => pg u (py.mem_iff.mpr hu)
          have fb : fbad ks g = none := by
            unfold fbad
            rw [← ey, List.find?_eq_none]
            exact fun u hu => by rw [pg u hu]; simp
          obtain ⟨_, gd⟩ := Dc.dm all
          have K6 := k5.trans k6
          have cn : (once [] (flatM (mOf ys g))).length = cnt ks g := by
            unfold cnt
            refine (once_perm fun x => ?_).length_eq
            rw [mem_flatM, mem_flatM]
            unfold mOf
            simp only [List.mem_map]
            exact ⟨fun ⟨e, ⟨u, hu, he⟩, hx⟩ => ⟨e, ⟨u, py.mem_iff.mp hu, he⟩, hx⟩, fun ⟨e, ⟨u, hu, he⟩, hx⟩ => ⟨e, ⟨u, py.mem_iff.mpr hu, he⟩, hx⟩⟩
          have l36 : (flatM (mOf ys g)).length ≤ 36 := by
            have : (mOf ys g).Perm (mOf ks g) := py.map _
            exact flat_len (gd.perm this)
          have tx : TxSq K H6 (.ref e1) (flatM (mOf ys g)) := ⟨e1, rfl, .inl (.inl (.inl he1))⟩
          have W6 : Ow H6 [] H6 [] := Ow.start0
          walk_at "rd"
          refine ⟨_, tx, by omega, ?_⟩
          rw [cn]
          rcases rest with ⟨u, fu, _⟩ | ⟨_, ⟨lt, rfl, rfl⟩ | ⟨le, rfl⟩⟩
          · rw [fb] at fu; cases fu
          · refine ⟨_, _, rfl, rfl, _, rfl, ifT (decide_eq_true (by omega)) ?_⟩
            walk_at "rd"
            refine ⟨_, tx, by omega, ?_⟩
            rw [cn]
            walk_at "rd"
            rename_i p3 H8 np3 sp3 kp3 hp3 W8
            exact q.to p3 H8 (K6.free np3) sp3 (K6.trans kp3) hp3
          · refine ⟨_, _, rfl, rfl, _, rfl, ifF (decide_eq_false (by omega)) ?_⟩
            walk_at "rd"
            rename_i p3 H8 np3 sp3 kp3 hp3 W8
            exact q.to p3 H8 (K6.free np3) sp3 (K6.trans kp3) hp3
end
end K24
namespace K24
open PySem PySem.Spec PyProof.Rows L2 FR TL
open C8 (pss_cut pe_gc)
open StX (pe_callS2 pa_star)
def lets : Str := Str.ofString "abcdefghijklmnopqrstuvwxyz"
theorem tl_one (e : Nat) {t : Int} : tl (Txt.mul ⟨#[e]⟩ t) = List.replicate t.toNat e := by
  rw [tl_mul]
  induction t.toNat with
  | zero => rfl
  | succ n ih => rw [List.replicate_succ, List.flatten_cons, ih]; rfl
def Un (s : Str) : Prop := Us s ∧ s ≠ Str.ofString "nobody"
def Uns (xs : List Str) : Prop := ∀ x ∈ xs, Un x
theorem us_mul {e : Nat} (he : lc e = true) {t : Int} (t0 : 0 ≤ t) (t1 : t < 8) : Un (Txt.mul ⟨#[e]⟩ (1 + t)) := by
  have hl : (Txt.mul ⟨#[e]⟩ (1 + t)).length = (1 + t).toNat := by rw [mul_len]; exact Nat.one_mul _
  refine ⟨⟨⟨by rw [hl]; omega, by rw [hl]; omega, fun c hc => ?_⟩, fun h => ?_⟩, fun h => ?_⟩
  · rw [tl_one] at hc
    rw [List.eq_of_mem_replicate hc]
    exact he
  · have h2 := congrArg tl h
    rw [tl_one] at h2
    have m1 : (114 : Nat) ∈ List.replicate (1 + t).toNat e := by rw [h2]; decide +kernel
    have m2 : (111 : Nat) ∈ List.replicate (1 + t).toNat e := by rw [h2]; decide +kernel
    have := (List.eq_of_mem_replicate m1).trans (List.eq_of_mem_replicate m2).symm
    omega
  · have h2 := congrArg tl h
    rw [tl_one] at h2
    have m1 : (110 : Nat) ∈ List.replicate (1 + t).toNat e := by rw [h2]; decide +kernel
    have m2 : (111 : Nat) ∈ List.replicate (1 + t).toNat e := by rw [h2]; decide +kernel
    have := (List.eq_of_mem_replicate m1).trans (List.eq_of_mem_replicate m2).symm
    omega
def glN : List Str := ["staff", "guests", "chess", "wheel", "a", "zz"]
def rot (s k : Nat) : List Str := (glN.drop s ++ glN.take s).take (1 + k)
structure GsOk (xs : List Str) : Prop where
  su : ∀ g ∈ xs, g ∈ glN
  nd : xs.Nodup
  l1 : 1 ≤ xs.length
  l6 : xs.length ≤ 6
theorem rot_ok {s k : Nat} (hs : s < 6) (hk : k < 6) : GsOk (rot s k) := by
  have h : ∀ s k : Fin 6, ((rot s k).all fun g => glN.contains g) = true ∧ (rot s k).Nodup ∧ 1 ≤ (rot s k).length ∧ (rot s k).length ≤ 6 := by decide +kernel
  obtain ⟨h1, h2, h3, h4⟩ := h ⟨s, hs⟩ ⟨k, hk⟩
  exact ⟨fun g hg => by simpa using List.all_eq_true.mp h1 g hg, h2, h3, h4⟩
theorem us_glN : Uss glN := fun g hg => by
  have h : (glN.all fun g => nm g && decide (g ≠ Str.ofString "root")) = true := by decide +kernel
  have := List.all_eq_true.mp h g hg
  rw [Bool.and_eq_true, decide_eq_true_eq] at this
  exact ⟨Nm_of this.1, this.2⟩
theorem bag_ne {x y z : Int} {xs : List Str} : bagO x y z ≠ .lst (xs.map V.str) := fun h => by
  unfold bagO at h
  injection h with h
  cases xs with
  | nil => cases h
  | cons s r =>
    rw [List.map_cons] at h
    injection h with h _
    cases h
theorem Ow.startL {H : Hp} {L : List (Addr × HO)} (h : ∀ p ∈ L, H p.1 = some p.2) (nd : (L.map (·.1)).Nodup) : Ow H (L.map (·.1)) H L :=
  ⟨fun _ _ h _ => h, h, nd, fun p hp => .inr (List.mem_map_of_mem hp)⟩
def RS (H : Hp) (x : V) (xs : List Str) : Prop := ∃ p, x = .ref p ∧ H p = some (.lst (xs.map V.str)) ∧ sysModules < p
theorem RS.rl {H : Hp} {x : V} {xs : List Str} (h : RS H x xs) : RL H x xs := by
  obtain ⟨p, e, h, _⟩ := h
  exact ⟨p, e, h⟩
theorem RS.far {H H' : Hp} {b d : Addr} {x y z : Int} {kvs : List (L2.Key × V)} {v : V} {xs : List Str} (h : RS H v xs) (hb : H b = some (bagO x y z)) (hd : H d = some (.dK kvs)) (k : Keep [b, d] H H') : RS H' v xs := by
  obtain ⟨p, rfl, h, sp⟩ := h
  refine ⟨p, rfl, k _ _ h ?_, sp⟩
  simp only [List.mem_cons, List.not_mem_nil, or_false, not_or]
  exact ⟨ne_of h hb (Ne.symm bag_ne), ne_of h hd (fun z => by cases z)⟩
structure LG (H0 H : Hp) (b d pl pg : Addr) (ys : List Str) (kvs : List (L2.Key × V)) (m : Mp) (x y z : Int) : Prop where
  fd : H0 d = none
  kp : Keep [b] H0 H
  hb : H b = some (bagO x y z)
  hd : H d = some (.dK kvs)
  hl : H pl = some (.lst (ys.map V.str))
  hg : H pg = some (.lst (glN.map V.str))
  dm : DM (RS H) kvs m
  gs : ∀ e ∈ m, GsOk e.2
section
variable {P : Program} {w : World} {K : PySem.W.Frag} {mg : Str → Option Value} {base : Heap} {A : Ads}
set_option pp.maxSteps 200
def spGood : Sp := fun vs H Q _ => ∃ (b : Addr) (n : Nat) (x y z : Int), vs = [.ref b] ∧ H b = some (bagO x y z) ∧ BagOk n x y z ∧ n < 800000 ∧
  ∀ (a : Addr) (kvs : List (L2.Key × V)) (m : Mp) (x' y' z' : Int) (H' : Hp), (m.map (·.1)).Nodup → Uns (m.map (·.1)) → 1 ≤ m.length → m.length ≤ 6 → (∀ e ∈ m, GsOk e.2) → BagOk (n + 60) x' y' z' → Keep [b] H H' → H' b = some (bagO x' y' z') → H a = none → H' a = some (.dK kvs) → DM (RS H') kvs m → Q (.ref a) H'
theorem ok_good (T : Txt K mg A) : FnOk P w K mg base CX0 2 A.f_good A.d_good ["_law_bag_here"] spGood := by
  refine T.F_good.ok sc_good (fun vs H Q E h => ?_) (fun cdv A_ outer s_ H vs Q E hr h => ?_)
  · obtain ⟨b, n, x, y, z, rfl, _⟩ := h
    rfl
  · obtain ⟨b, n, x, y, z, rfl, hb, ok, hn, q⟩ := h
    have W := Ow.start1 hb
    have hsz : lets.length ≤ sizeLine := size_le (by decide +kernel)
    refine ⟨_, (pss_cons (ps_set (i := 1) sc_good.nd rfl (.inr rfl) pe_str)
  (pss_cons (ps_set (i := 2) sc_good.nd rfl (.inr rfl) (pe_call (ok_take T) (hr.mono (by decide)) (by rfl) T.g_take T.F_take.kp T.B_take .nil pass0 (pa_cons (pv 0) (pa_cons pe_int pa_nil))))
  (pss_cons (ps_setLc (i := 3) (own := [("_law_k", 8)]) (g := gName 8) rfl sc_good.nd rfl rfl (sw_true rfl rfl rfl (by decide +kernel)) (pi_range1 (by rfl) T.b_range (pa_cons (pe_op op_add pe_int (pe_call (ok_take T) (hr.mono (by decide)) (by rfl) T.g_take T.F_take.kp T.B_take .nil pass0 (pa_cons (pv 0) (pa_cons pe_int pa_nil)))) pa_nil)) (blkOk_by (own := [("_law_k", 8)]) (N := N_good) (sc := defScope s_good) (by decide +kernel)) (fun _ _ _ _ _ => pg_name (i := 8) sc_good.nd rfl (Or.inl rfl)) (fun _ _ _ _ _ => pts_nil) (fun _ _ _ _ _ => (pe_op op_mul_str (pe_ix ix_str (pv 1) (pe_op op_add (pv 2) (pv 8)) (fun _ _ => rfl)) (pe_op op_add pe_int (pe_call (ok_take T) (hr.mono (by decide)) (by rfl) T.g_take T.F_take.kp T.B_take .nil pass0 (pa_cons (pv 0) (pa_cons pe_int pa_nil)))))))
  (pss_cons (ps_set (i := 4) sc_good.nd rfl (.inl rfl) (pe_lstS (pa_cons pe_str (pa_cons pe_str (pa_cons pe_str (pa_cons pe_str (pa_cons pe_str (pa_cons pe_str pa_nil))))))))
  (pss_cons (ps_set (i := 5) sc_good.nd rfl (.inl rfl) pe_dnewN)
  (pss_cons (ps_for PassesOwn.never rfl (pi_list (pe_stepL (pv 3) (po_some (pe_ix ix_list (pe_lstS (pa_cons pe_int (pa_cons (pe_un un_neg pe_int) pa_nil))) (pe_call (ok_take T) (hr.mono (by decide)) (by rfl) T.g_take T.F_take.kp T.B_take .nil pass0 (pa_cons (pv 0) (pa_cons pe_int pa_nil))) (fun _ _ => rfl))))) (pg_name (i := 6) sc_good.nd rfl (.inl rfl)) (pss_cons (ps_set (i := 7) sc_good.nd rfl (.inl rfl) (pe_call (ok_take T) (hr.mono (by decide)) (by rfl) T.g_take T.F_take.kp T.B_take .nil pass0 (pa_cons (pv 0) (pa_cons pe_int pa_nil))))
  (pss_one (ps_asg (pe_slice sl_listS (pe_op op_catN (pe_slice sl_listS (pv 4) (po_some (pv 7)) po_none) (pe_slice sl_listS (pv 4) po_none (po_some (pv 7)))) po_none (po_some (pe_op op_add pe_int (pe_call (ok_take T) (hr.mono (by decide)) (by rfl) T.g_take T.F_take.kp T.B_take .nil pass0 (pa_cons (pv 0) (pa_cons pe_int pa_nil)))))) (pg_sub (pv 5) (pv 6) (set_dict (hu_of hr)))))))
  (pss_one (ps_ret (pv 5))))))))), ?_⟩
    walk_at "rd"
    walk_at "take"
    rename_i d2 x2 y2 z2 H2 d20 d21 ok2 kp2 hb2 W2
    walk_at "rd"
    walk_at "take"
    rename_i d3 x3 y3 z3 H3 d30 d31 ok3 kp3 hb3 W3
    walk_at "rd"
    intro D hD
    refine lc_rg (fun i H' => ∃ (ns : List Str) (x y z : Int), ns.length = i ∧ ns.Nodup ∧ Uns ns ∧ (∀ s ∈ ns, ∃ e, e < 97 + d2.toNat + i ∧ e ∈ tl s) ∧ BagOk (n + 2 + i) x y z ∧ Ow H [b] H' [(D, .lst (ns.map V.str)), (b, bagO x y z)]) ?_ ?_ ?_
    · exact ⟨[], _, _, _, rfl, .nil, fun _ h => by simp at h, fun _ h => by simp at h, ok3, W3.new hD⟩
    · rintro i H5 hi ⟨ns, x5, y5, z5, hl, ndn, hns, hlt, ok5, W5⟩
      have hi' : i < 6 := by omega
      walk_at "rd"
      have hat : ∀ j : Fin 26, lets.cps.toList[j.1]? = some (97 + j.1) := by decide +kernel
      obtain ⟨f, rfl⟩ := Int.eq_ofNat_of_zero_le d20
      have hf : f < 20 := by omega
      refine ⟨_, _, 97 + (f + i), rfl, rfl, hsz, ?_, ?_⟩
      · have e := hat ⟨f + i, by omega⟩
        show atI lets.cps.toList _ = _
        rw [show ((f : Nat) : Int) + (0 + (i : Int)) = ((f + i : Nat) : Int) by omega]
        exact atI_nat e
      walk_at "rd"
      walk_at "take"
      rename_i d7 x7 y7 z7 H7 d70 d71 ok7 kp7 hb7 W7
      walk_at "rd"
      refine ⟨⟨by omega, by omega, by show 1 ≤ 1000; decide⟩, ?_⟩
      have lce : lc (97 + (f + i)) = true := decide_eq_true ⟨by omega, by omega⟩
      refine ⟨_, W7.get 0 rfl, size_ok (by rw [List.length_map]; omega), ns ++ [Txt.mul ⟨#[97 + (f + i)]⟩ (1 + d7)], _, _, _, by rw [List.length_append, hl]; rfl, List.nodup_append.mpr ⟨ndn, by simp, fun a ha b' hb' e => ?_⟩, fun s hs => ?_, fun s hs => ?_, ok7.mono (by omega), ?_⟩
      · have hb2 : b' = _ := List.mem_singleton.mp hb'
        obtain ⟨e1, l1, m1⟩ := hlt a ha
        rw [e, hb2, tl_one] at m1
        have := List.eq_of_mem_replicate m1
        simp at l1
        omega
      · rcases List.mem_append.mp hs with hs | hs
        · exact hns s hs
        · rw [List.mem_singleton.mp hs]; exact us_mul lce d70 d71
      · rcases List.mem_append.mp hs with hs | hs
        · obtain ⟨e1, l1, m1⟩ := hlt s hs
          exact ⟨e1, by omega, m1⟩
        · refine ⟨97 + (f + i), by simp; omega, ?_⟩
          rw [List.mem_singleton.mp hs, tl_one]
          exact List.mem_replicate.mpr ⟨by omega, rfl⟩
      · rw [List.map_append]
        exact W7.set 0 rfl
    · rintro H7 ⟨ns, x7, y7, z7, hl, ndn, hns, hlt, ok7, W7⟩
      clear hlt W3 W2 W
      have hl6 : 1 ≤ ns.length ∧ ns.length ≤ 6 := by omega
      walk_at "rd"
      rename_i pg H8 np8 sp8 kp8 hp8 W8 pd H9 np9 kp9 hp9 W9
      refine ⟨D, _, rfl, W9.sq 2 rfl, ?_⟩
      walk_at "rd"
      rename_i p10 H10 np10 sp10 kp10 hp10 W10
      walk_at "take"
      rename_i d11 x11 y11 z11 H11 d110 d111 ok11 kp11 hb11 W11
      obtain ⟨u, rfl⟩ := Int.eq_ofNat_of_zero_le d110
      refine ⟨p10, _, _, (if u = 0 then .int 1 else .int (-1)), rfl, rfl, W11.sq 0 rfl, ?_, ?_⟩
      · have : u = 0 ∨ u = 1 := by omega
        rcases this with rfl | rfl <;> rfl
      refine ⟨(if u = 0 then 1 else -1), by split <;> rfl, W11.sq 3 rfl, ?_⟩
      refine Decidable.byCases (p := u = 0) (fun c => .inl ⟨by rw [if_pos c], fun pl npl => ?_⟩) (fun c => .inr ⟨by rw [if_neg c], fun pl npl => ?_⟩)
      · have W12 := (W11.new (o := .lst (ns.map V.str)) npl).sel (L' := [(pl, .lst (ns.map V.str)), (pd, .dK []), (pg, .lst (glN.map V.str)), (b, bagO x11 y11 z11)]) (.cons₂ _ (.cons _ (.cons₂ _ (.cons₂ _ (.cons _ (.cons₂ _ .slnil))))))
        have ly : ns.length ≤ 6 := by omega
        have ly1 : 1 ≤ ns.length := by omega
        generalize upd H11 pl (.lst (ns.map V.str)) = H12 at W12 ⊢
        clear W11 W10 W9 W8 W7 hl hl6
        generalize ns = ys at *
        have L0 : LG H H12 b pd pl pg ys [] [] x11 y11 z11 := ⟨(W12.sel (L' := [(pd, .dK []), (pg, .lst (glN.map V.str)), (b, bagO x11 y11 z11)]) (.cons _ (.refl _))).fresh (by simp), W12.keep, W12.get 3 rfl, W12.get 1 rfl, W12.get 0 rfl, W12.get 2 rfl, .nil, fun _ h => by simp at h⟩
        clear W12
        have ok12 : BagOk (n + 12) x11 y11 z11 := ok11.mono (by omega)
        refine ⟨pl, rfl, ⟨_, .inl (.inl L0.hl)⟩, ?_⟩
        refine for_li (K := K) (a := pl) (xs := ys.map V.str) (fun pre σ H' => ∃ kvs m x y z y6 y7, σ = [some (.ref b), some (.str lets), some (.int d2), some (.ref D), some (.ref pg), some (.ref pd), y6, y7, none] ∧ m.map (·.1) = ys.take pre.length ∧ BagOk (n + 12 + 2 * pre.length) x y z ∧ LG H H' b pd pl pg ys kvs m x y z) ⟨[], [], _, _, _, _, _, rfl, rfl, ok12, L0⟩ (fun pre post σ H' _ h => ?_) ?_ ?_
        · obtain ⟨_, _, _, _, _, _, _, _, _, _, h⟩ := h
          exact .inl (.inl h.hl)
        · rintro pre v post σ Hi ex ⟨kvs, m, xi, yi, zi, y6, y7, rfl, mk, oki, L⟩
          have hx : (ys.map V.str)[pre.length]? = some v := by rw [ex]; simp
          rw [List.getElem?_map] at hx
          obtain ⟨s, hs, rfl⟩ := Option.map_eq_some_iff.mp hx
          have lp : pre.length < 6 := by have := (List.getElem?_eq_some_iff.mp hs).1; omega
          have lm : m.length ≤ 6 := by
            have := congrArg List.length mk
            rw [List.length_map, List.length_take] at this
            omega
          have nbd : b ≠ pd := ne_of L.hb L.hd (fun z => by cases z)
          have npg : pg ∉ [b, pd] := by
            simp only [List.mem_cons, List.not_mem_nil, or_false, not_or]
            exact ⟨ne_of L.hg L.hb (Ne.symm bag_ne), ne_of L.hg L.hd (fun z => by cases z)⟩
          have npl : pl ∉ [b, pd] := by
            simp only [List.mem_cons, List.not_mem_nil, or_false, not_or]
            exact ⟨ne_of L.hl L.hb (Ne.symm bag_ne), ne_of L.hl L.hd (fun z => by cases z)⟩
          have Wi : Ow Hi [b, pd] Hi [(b, bagO xi yi zi), (pd, .dK kvs)] := Ow.startL (L := [(b, bagO xi yi zi), (pd, .dK kvs)]) (fun p hp => by
            simp only [List.mem_cons, List.not_mem_nil, or_false] at hp
            rcases hp with rfl | rfl
            · exact L.hb
            · exact L.hd) (by simp [nbd])
          walk_at "rd"
          walk_at "take"
          rename_i d14 x14 y14 z14 H14 d140 d141 ok14 kp14 hb14 W14
          obtain ⟨sN, rfl⟩ := Int.eq_ofNat_of_zero_le d140
          walk_at "rd"
          refine ⟨pg, _, rfl, .inl (.inl (W14.keep _ _ L.hg npg)), NewS.mk fun p15 H15 n15 s15 k15 h15 => ?_⟩
          rw [cutV_from, ← List.map_drop] at h15
          have W15 := W14.res (W14.call0 k15) n15 h15
          walk_at "rd"
          refine ⟨pg, _, rfl, .inl (.inl (W15.keep _ _ L.hg npg)), NewS.mk fun p16 H16 n16 s16 k16 h16 => ?_⟩
          rw [cutV_to, ← List.map_take] at h16
          have W16 := W15.res (W15.call0 k16) n16 h16
          have l12 : (glN.drop sN).length ≤ 6 ∧ (glN.take sN).length ≤ 6 := by
            rw [List.length_drop, List.length_take]
            exact ⟨Nat.sub_le _ _, Nat.min_le_right _ _⟩
          refine ⟨p15, p16, _, _, rfl, rfl, W16.get 1 rfl, W16.get 0 rfl, size_le (by rw [List.length_map, List.length_map]; omega), NewO.mk fun p17 H17 n17 k17 h17 => ?_⟩
          rw [← List.map_append] at h17
          have W17 := W16.res (W16.call0 k17) n17 h17
          walk_at "rd"
          walk_at "take"
          rename_i d18 x18 y18 z18 H18 d180 d181 ok18 kp18 hb18 W18
          obtain ⟨kN, rfl⟩ := Int.eq_ofNat_of_zero_le d180
          walk_at "rd"
          refine ⟨p17, _, rfl, W18.sq 0 rfl, NewS.mk fun p19 H19 n19 s19 k19 h19 => ?_⟩
          rw [show (1 : Int) + (kN : Int) = ((1 + kN : Nat) : Int) by omega, cutV_to, ← List.map_take] at h19
          have h19 : H19 p19 = some (.lst ((rot sN kN).map V.str)) := h19
          have W19 := (W18.res (W18.call0 k19) n19 h19).sel (L' := [(p19, .lst ((rot sN kN).map V.str)), (b, bagO x18 y18 z18), (pd, .dK kvs)]) (.cons₂ _ (.cons _ (.cons _ (.cons _ (.refl _)))))
          have gk := rot_ok (s := sN) (k := kN) (by omega) (by omega)
          have nin : s ∉ m.map (·.1) := by rw [mk]; exact take_none ndn hs
          obtain ⟨e1, e2⟩ := (L.dm.imp fun _ _ r => r.far L.hb L.hd W19.keep).snoc (u := s) (v := .ref p19) (xs := rot sN kN) ⟨p19, rfl, W19.get 0 rfl, s19⟩ nin
          walk_at "rd"
          refine ⟨pd, _, rfl, .inl ⟨kvs, Sum.inr s, W19.get 2 rfl, rfl, size_ok (by rw [L.dm.len]; omega), rfl⟩, ?_⟩
          rw [e1]
          have W20 := W19.set (o' := .dK (kvs ++ [(Sum.inr s, .ref p19)])) 2 rfl
          refine ⟨_, m ++ [(s, rot sN kN)], _, _, _, _, _, rfl, ?_, ok18.mono (by rw [List.length_append, List.length_singleton]; omega), L.fd, fun a o ha na => ?_, W20.get 1 rfl, W20.get 2 rfl, W20.keep _ _ L.hl npl, W20.keep _ _ L.hg npg, e2.imp fun _ _ r => ?_, fun e he => ?_⟩
          · rw [List.map_append, mk, List.length_append, List.length_singleton, List.take_add_one, hs]
            rfl
          · refine W20.keep _ _ (L.kp a o ha na) ?_
            simp only [List.mem_cons, List.not_mem_nil, or_false, not_or]
            exact ⟨by simpa using na, fun e => by rw [e, L.fd] at ha; cases ha⟩
          · obtain ⟨q1, rfl, h1, sq⟩ := r
            exact ⟨q1, rfl, by rw [upd_ne (ne_of h1 (W19.get 2 rfl) (fun z => by cases z))]; exact h1, sq⟩
          · rcases List.mem_append.mp he with he | he
            · exact L.gs e he
            · rw [List.mem_singleton.mp he]; exact gk
        · rintro σ H9 ⟨kvs, m, xi, yi, zi, y6, y7, rfl, mk, oki, L⟩
          rw [List.length_map, List.take_length] at mk
          rw [List.length_map] at oki
          walk_at "rd"
          have lm := congrArg List.length mk
          rw [List.length_map] at lm
          exact q pd kvs m _ _ _ H9 (by rw [mk]; exact ndn) (by rw [mk]; exact hns) (by omega) (by omega) L.gs (oki.mono (by omega)) L.kp L.hb L.fd L.hd L.dm
      · rw [← List.map_reverse]
        have W12 := (W11.new (o := .lst (ns.reverse.map V.str)) npl).sel (L' := [(pl, .lst (ns.reverse.map V.str)), (pd, .dK []), (pg, .lst (glN.map V.str)), (b, bagO x11 y11 z11)]) (.cons₂ _ (.cons _ (.cons₂ _ (.cons₂ _ (.cons _ (.cons₂ _ .slnil))))))
        have ly : ns.reverse.length ≤ 6 := by rw [List.length_reverse]; omega
        have ly1 : 1 ≤ ns.reverse.length := by rw [List.length_reverse]; omega
        have hr2 : Uns ns.reverse := fun s hs => hns s (List.mem_reverse.mp hs)
        have nr2 : ns.reverse.Nodup := (List.reverse_perm ns).nodup_iff.mpr ndn
        generalize upd H11 pl (.lst (ns.reverse.map V.str)) = H12 at W12 ⊢
        clear W11 W10 W9 W8 W7 hl hl6 hns ndn
        generalize ns.reverse = ys at *
        have hns := hr2
        have ndn := nr2
        have L0 : LG H H12 b pd pl pg ys [] [] x11 y11 z11 := ⟨(W12.sel (L' := [(pd, .dK []), (pg, .lst (glN.map V.str)), (b, bagO x11 y11 z11)]) (.cons _ (.refl _))).fresh (by simp), W12.keep, W12.get 3 rfl, W12.get 1 rfl, W12.get 0 rfl, W12.get 2 rfl, .nil, fun _ h => by simp at h⟩
        clear W12
        have ok12 : BagOk (n + 12) x11 y11 z11 := ok11.mono (by omega)
        refine ⟨pl, rfl, ⟨_, .inl (.inl L0.hl)⟩, ?_⟩
        refine for_li (K := K) (a := pl) (xs := ys.map V.str) (fun pre σ H' => ∃ kvs m x y z y6 y7, σ = [some (.ref b), some (.str lets), some (.int d2), some (.ref D), some (.ref pg), some (.ref pd), y6, y7, none] ∧ m.map (·.1) = ys.take pre.length ∧ BagOk (n + 12 + 2 * pre.length) x y z ∧ LG H H' b pd pl pg ys kvs m x y z) ⟨[], [], _, _, _, _, _, rfl, rfl, ok12, L0⟩ (fun pre post σ H' _ h => ?_) ?_ ?_
        · obtain ⟨_, _, _, _, _, _, _, _, _, _, h⟩ := h
          exact .inl (.inl h.hl)
        · rintro pre v post σ Hi ex ⟨kvs, m, xi, yi, zi, y6, y7, rfl, mk, oki, L⟩
          have hx : (ys.map V.str)[pre.length]? = some v := by rw [ex]; simp
          rw [List.getElem?_map] at hx
          obtain ⟨s, hs, rfl⟩ := Option.map_eq_some_iff.mp hx
          have lp : pre.length < 6 := by have := (List.getElem?_eq_some_iff.mp hs).1; omega
          have lm : m.length ≤ 6 := by
            have := congrArg List.length mk
            rw [List.length_map, List.length_take] at this
            omega
          have nbd : b ≠ pd := ne_of L.hb L.hd (fun z => by cases z)
          have npg : pg ∉ [b, pd] := by
            simp only [List.mem_cons, List.not_mem_nil, or_false, not_or]
            exact ⟨ne_of L.hg L.hb (Ne.symm bag_ne), ne_of L.hg L.hd (fun z => by cases z)⟩
          have npl : pl ∉ [b, pd] := by
            simp only [List.mem_cons, List.not_mem_nil, or_false, not_or]
            exact ⟨ne_of L.hl L.hb (Ne.symm bag_ne), ne_of L.hl L.hd (fun z => by cases z)⟩
          have Wi : Ow Hi [b, pd] Hi [(b, bagO xi yi zi), (pd, .dK kvs)] := Ow.startL (L := [(b, bagO xi yi zi), (pd, .dK kvs)]) (fun p hp => by
            simp only [List.mem_cons, List.not_mem_nil, or_false] at hp
            rcases hp with rfl | rfl
            · exact L.hb
            · exact L.hd) (by simp [nbd])
          walk_at "rd"
          walk_at "take"
          rename_i d14 x14 y14 z14 H14 d140 d141 ok14 kp14 hb14 W14
          obtain ⟨sN, rfl⟩ := Int.eq_ofNat_of_zero_le d140
          walk_at "rd"
          refine ⟨pg, _, rfl, .inl (.inl (W14.keep _ _ L.hg npg)), NewS.mk fun p15 H15 n15 s15 k15 h15 => ?_⟩
          rw [cutV_from, ← List.map_drop] at h15
          have W15 := W14.res (W14.call0 k15) n15 h15
          walk_at "rd"
          refine ⟨pg, _, rfl, .inl (.inl (W15.keep _ _ L.hg npg)), NewS.mk fun p16 H16 n16 s16 k16 h16 => ?_⟩
          rw [cutV_to, ← List.map_take] at h16
          have W16 := W15.res (W15.call0 k16) n16 h16
          have l12 : (glN.drop sN).length ≤ 6 ∧ (glN.take sN).length ≤ 6 := by
            rw [List.length_drop, List.length_take]
            exact ⟨Nat.sub_le _ _, Nat.min_le_right _ _⟩
          refine ⟨p15, p16, _, _, rfl, rfl, W16.get 1 rfl, W16.get 0 rfl, size_le (by rw [List.length_map, List.length_map]; omega), NewO.mk fun p17 H17 n17 k17 h17 => ?_⟩
          rw [← List.map_append] at h17
          have W17 := W16.res (W16.call0 k17) n17 h17
          walk_at "rd"
          walk_at "take"
          rename_i d18 x18 y18 z18 H18 d180 d181 ok18 kp18 hb18 W18
          obtain ⟨kN, rfl⟩ := Int.eq_ofNat_of_zero_le d180
          walk_at "rd"
          refine ⟨p17, _, rfl, W18.sq 0 rfl, NewS.mk fun p19 H19 n19 s19 k19 h19 => ?_⟩
          rw [show (1 : Int) + (kN : Int) = ((1 + kN : Nat) : Int) by omega, cutV_to, ← List.map_take] at h19
          have h19 : H19 p19 = some (.lst ((rot sN kN).map V.str)) := h19
          have W19 := (W18.res (W18.call0 k19) n19 h19).sel (L' := [(p19, .lst ((rot sN kN).map V.str)), (b, bagO x18 y18 z18), (pd, .dK kvs)]) (.cons₂ _ (.cons _ (.cons _ (.cons _ (.refl _)))))
          have gk := rot_ok (s := sN) (k := kN) (by omega) (by omega)
          have nin : s ∉ m.map (·.1) := by rw [mk]; exact take_none ndn hs
          obtain ⟨e1, e2⟩ := (L.dm.imp fun _ _ r => r.far L.hb L.hd W19.keep).snoc (u := s) (v := .ref p19) (xs := rot sN kN) ⟨p19, rfl, W19.get 0 rfl, s19⟩ nin
          walk_at "rd"
          refine ⟨pd, _, rfl, .inl ⟨kvs, Sum.inr s, W19.get 2 rfl, rfl, size_ok (by rw [L.dm.len]; omega), rfl⟩, ?_⟩
          rw [e1]
          have W20 := W19.set (o' := .dK (kvs ++ [(Sum.inr s, .ref p19)])) 2 rfl
          refine ⟨_, m ++ [(s, rot sN kN)], _, _, _, _, _, rfl, ?_, ok18.mono (by rw [List.length_append, List.length_singleton]; omega), L.fd, fun a o ha na => ?_, W20.get 1 rfl, W20.get 2 rfl, W20.keep _ _ L.hl npl, W20.keep _ _ L.hg npg, e2.imp fun _ _ r => ?_, fun e he => ?_⟩
          · rw [List.map_append, mk, List.length_append, List.length_singleton, List.take_add_one, hs]
            rfl
          · refine W20.keep _ _ (L.kp a o ha na) ?_
            simp only [List.mem_cons, List.not_mem_nil, or_false, not_or]
            exact ⟨by simpa using na, fun e => by rw [e, L.fd] at ha; cases ha⟩
          · obtain ⟨q1, rfl, h1, sq⟩ := r
            exact ⟨q1, rfl, by rw [upd_ne (ne_of h1 (W19.get 2 rfl) (fun z => by cases z))]; exact h1, sq⟩
          · rcases List.mem_append.mp he with he | he
            · exact L.gs e he
            · rw [List.mem_singleton.mp he]; exact gk
        · rintro σ H9 ⟨kvs, m, xi, yi, zi, y6, y7, rfl, mk, oki, L⟩
          rw [List.length_map, List.take_length] at mk
          rw [List.length_map] at oki
          walk_at "rd"
          have lm := congrArg List.length mk
          rw [List.length_map] at lm
          exact q pd kvs m _ _ _ H9 (by rw [mk]; exact ndn) (by rw [mk]; exact hns) (by omega) (by omega) L.gs (oki.mono (by omega)) L.kp L.hb L.fd L.hd L.dm
end
end K24
namespace K24
open PySem PySem.Spec PyProof.Rows L2 FR TL
open C8 (pss_cut pe_gc)
open StX (pe_callS2 pa_star)
theorem Od.keepb {H H' : Hp} {v : V} {e : PyData} {b : Addr} {x y z : Int} (h : Od H v e) (hb : H b = some (bagO x y z)) (k : Keep [b] H H') : Od H' v e := ⟨h.o.keepb hb k, h.a⟩
theorem od_str {H : Hp} {s : Str} (h : (okB (.str s) && ascB (.str s)) = true) : Od H (.str s) (.str s) := by
  rw [Bool.and_eq_true] at h
  exact ⟨⟨.str s, h.1⟩, h.2⟩
theorem od_gl : ∀ {H : Hp} {xs : List Str}, (∀ g ∈ xs, g ∈ glN) → Ods H (xs.map V.str) (xs.map PyData.str)
  | _, [], _ => .nil
  | _, g :: r, h => .cons (od_str (by
      have all : (glN.all fun g => okB (.str g) && ascB (.str g)) = true := by decide +kernel
      exact List.all_eq_true.mp all g (h g List.mem_cons_self))) (od_gl fun x hx => h x (List.mem_cons_of_mem _ hx))
theorem Ods.app {H : Hp} {a b : List V} {c d : List PyData} (h : Ods H a c) (g : Ods H b d) : Ods H (a ++ b) (c ++ d) := by
  unfold Ods at *
  induction h with
  | nil => exact g
  | cons h t ih => exact .cons h ih
def vB (e : PyData) : Bool := e.showable && decide (e.depth ≤ 2) && e.leavesShort 40 && decide (e.weight ≤ 2000)
theorem vB_all {e : PyData} (h : vB e = true) : e.showable = true ∧ e.depth ≤ 2 ∧ e.leavesShort 40 = true ∧ e.weight ≤ 2000 := by
  unfold vB at h
  simp only [Bool.and_eq_true, decide_eq_true_eq] at h
  exact ⟨h.1.1.1, h.1.1.2, h.1.2, h.2⟩
theorem ods_all {H : Hp} : ∀ {vs : List V} {es : List PyData}, Ods H vs es → PyData.showableAll es = true ∧ PyData.depthAll es ≤ 1 ∧ PyData.leavesShortAll 40 es = true ∧ PyData.weightAll es ≤ 201 * es.length
  | [], [], .nil => ⟨rfl, Nat.zero_le _, rfl, Nat.zero_le _⟩
  | v :: vs, e :: es, .cons h t => by
    obtain ⟨i1, i2, i3, i4⟩ := ods_all t
    obtain ⟨a1, a2, a3, a4, _⟩ := okB_all h.o.b
    simp only [PyData.showableAll, PyData.depthAll, PyData.leavesShortAll, PyData.weightAll, List.length_cons]
    refine ⟨by rw [a1, i1]; rfl, by omega, by rw [a3, i3]; rfl, by omega⟩
theorem vB_list {H : Hp} {vs : List V} {es : List PyData} (o : Ods H vs es) (l : es.length ≤ 9) : vB (.list es) = true := by
  obtain ⟨a1, a2, a3, a4⟩ := ods_all o
  have e1 : (PyData.list es).depth = 1 + PyData.depthAll es := by simp only [PyData.depth]; try omega
  have e2 : (PyData.list es).weight = PyData.weightAll es := by simp only [PyData.weight]
  have e3 : (PyData.list es).showable = true := by simp only [PyData.showable, a1]
  have e4 : (PyData.list es).leavesShort 40 = true := by simp only [PyData.leavesShort, a3]
  unfold vB
  rw [e1, e2, e3, e4, decide_eq_true (by omega), decide_eq_true (by omega)]
  rfl
structure GW (H : Hp) (v : V) (e : PyData) : Prop where
  g : GV H v e
  b : vB e = true
  d : isDc e = true → e = .dict [(.str (Str.ofString "staff"), .int 1)]
theorem GW.keep {H H' : Hp} {v : V} {e : PyData} (h : GW H v e) (k : Keep [] H H') : GW H' v e := ⟨h.g.keep k, h.b, h.d⟩
theorem gw_lst {H : Hp} {a : Addr} {vs : List V} {es : List PyData} (h : H a = some (.lst vs)) (s : sysModules < a) (o : Ods H vs es) (l : es.length ≤ 9) : GW H (.ref a) (.list es) := ⟨.lst h s o (by omega), vB_list o l, fun z => by cases z⟩
theorem frAt {H0 H : Hp} {b p : Addr} {L : List (Addr × HO)} {o o' : HO} (W : Ow H0 [b] H L) (i j : Nat) (e : L[i]? = some (p, o)) (f : L[j]? = some (b, o')) (ij : i ≠ j) : H0 p = none := by
  rcases W.fr _ (List.mem_of_getElem? e) with h | h
  · exact h
  · exfalso
    have pb : p = b := by simpa using h
    have h1 : (L.map (·.1))[i]? = some p := by rw [List.getElem?_map, e]; rfl
    have h2 : (L.map (·.1))[j]? = some p := by rw [List.getElem?_map, f, pb]; rfl
    exact ij ((List.getElem?_inj (by exact (List.getElem?_eq_some_iff.mp h1).1) W.nd).mp (h1.trans h2.symm))
/-- a thing for groups, new since H0 -/
def GN (H0 H : Hp) (v : V) (e : PyData) : Prop := GW H v e ∧ ∀ a, v = .ref a → H0 a = none
theorem gn_ref {H0 H : Hp} {q : Addr} {e : PyData} (h : GW H (.ref q) e) (n : H0 q = none) : GN H0 H (.ref q) e := ⟨h, fun a z => by rw [← V.ref.inj z]; exact n⟩
theorem pick {R : V → PyData → Prop} {xs : List V} {es : List PyData} (h : Paired R xs es) {d : Int} (d0 : 0 ≤ d) (d1 : d < (xs.length : Int)) : ∃ v e, atI xs d = some v ∧ R v e := by
  obtain ⟨k, rfl⟩ := Int.eq_ofNat_of_zero_le d0
  have hk : k < xs.length := by omega
  obtain ⟨e, he, r⟩ := paired_get h (List.getElem?_eq_getElem hk)
  exact ⟨_, e, atI_nat (List.getElem?_eq_getElem hk), r⟩
section
variable {P : Program} {w : World} {K : PySem.W.Frag} {mg : Str → Option Value} {base : Heap} {A : Ads}
set_option pp.maxSteps 400
def spBad : Sp := fun vs H Q _ => ∃ (b pg : Addr) (gs : List Str) (n : Nat) (x y z : Int), vs = [.ref b, .ref pg] ∧ H b = some (bagO x y z) ∧ H pg = some (.lst (gs.map V.str)) ∧ GsOk gs ∧ BagOk n x y z ∧ n < 800000 ∧
  ∀ (v : V) (e : PyData) (x' y' z' : Int) (H' : Hp), GN H H' v e → BagOk (n + 10) x' y' z' → Keep [b] H H' → H' b = some (bagO x' y' z') → Q v H'
theorem ok_bad_groups (T : Txt K mg A) : FnOk P w K mg base CX0 2 A.f_bad_groups A.d_bad_groups ["_law_bag_here", "_law_groups"] spBad := by
  refine T.F_bad_groups.ok sc_bad_groups (fun vs H Q E h => ?_) (fun cdv A_ outer s_ H vs Q E hr h => ?_)
  · obtain ⟨b, pg, gs, n, x, y, z, rfl, _⟩ := h
    rfl
  · obtain ⟨b, pg, gs, n, x, y, z, rfl, hb, hg, gok, ok, hn, q⟩ := h
    have nbg : b ≠ pg := ne_of hb hg bag_ne
    have W : Ow H [b] H [(b, bagO x y z)] := Ow.start1 hb
    have npg : pg ∉ [b] := by simpa using Ne.symm nbg
    have l6 := gok.l6
    refine ⟨_, (pss_cons (ps_set (i := 2) sc_bad_groups.nd rfl (.inl rfl) (pe_ix ix_list (pe_lstS (pa_cons pe_str (pa_cons pe_str (pa_cons pe_str (pa_cons pe_str (pa_cons pe_non (pa_cons pe_int (pa_cons pe_bl (pa_cons (pe_lstS (pa_cons pe_str pa_nil)) (pa_cons (pe_tupN (pa_cons pe_str pa_nil)) (pa_cons pe_dnewN (pa_cons pe_str pa_nil)))))))))))) (pe_call (ok_take T) (hr.mono (by decide)) (by rfl) T.g_take T.F_take.kp T.B_take .nil pass0 (pa_cons (pv 0) (pa_cons pe_int pa_nil))) (fun _ _ => rfl)))
  (pss_cons (ps_set (i := 3) sc_bad_groups.nd rfl (.inl rfl) (pe_call (ok_take T) (hr.mono (by decide)) (by rfl) T.g_take T.F_take.kp T.B_take .nil pass0 (pa_cons (pv 0) (pa_cons (pe_op op_add (pe_callB call_len_seq (by rfl) T.b_len PySem.boot_len (pa_cons (pv 1) pa_nil)) pe_int) pa_nil))))
  (pss_cons (ps_set (i := 4) sc_bad_groups.nd rfl (.inl rfl) (pe_lstS (pa_cons (pe_op op_catS (pe_op op_catS (pe_slice sl_listN (pv 1) po_none (po_some (pv 3))) (pe_lstS (pa_cons (pv 2) pa_nil))) (pe_slice sl_listN (pv 1) (po_some (pv 3)) po_none)) (pa_cons (pe_op op_catS (pv 1) (pe_slice sl_listN (pv 1) po_none (po_some pe_int))) (pa_cons (pe_lstS pa_nil) (pa_cons (pe_tupN pa_nil) (pa_cons pe_non (pa_cons pe_str (pa_cons (pe_disp (pps_cons pe_str pe_int pps_nil) (by rfl) (by rfl) (fun z => by cases z) (by decide)) (pa_cons pe_int pa_nil))))))))))
  (pss_cons (ps_set (i := 4) sc_bad_groups.nd rfl (.inl rfl) (pe_op op_catS (pv 4) (pe_lstS (pa_cons (pe_lstS (pa_cons pe_str (pa_cons pe_str (pa_cons pe_str (pa_cons pe_str (pa_cons pe_str (pa_cons pe_str (pa_cons pe_str pa_nil)))))))) (pa_cons (pe_op op_catS (pe_slice sl_listN (pv 1) po_none (po_some (pv 3))) (pe_lstS (pa_cons (pv 2) pa_nil))) pa_nil)))))
  (pss_one (ps_ret (pe_ix ix_list (pv 4) (pe_call (ok_take T) (hr.mono (by decide)) (by rfl) T.g_take T.F_take.kp T.B_take .nil pass0 (pa_cons (pv 0) (pa_cons pe_int pa_nil))) (fun _ _ => rfl)))))))), ?_⟩
    walk_at "rd"
    rename_i p1 H1 np1 sp1 kp1 hp1 W1 p2 H2 np2 kp2 hp2 W2 p3 H3 np3 kp3 hp3 W3 p4 H4 np4 sp4 kp4 hp4 W4
    have PO : Paired (Od H4) [V.str (Str.ofString "root"), V.str (Str.ofString ""), V.str (Str.ofString "A"), V.str (Str.ofString "abcdefghi"), V.non, V.int 7, V.bl true, V.ref p1, V.ref p2, V.ref p3, V.str (Str.ofString "a b")]
        [.str (Str.ofString "root"), .str (Str.ofString ""), .str (Str.ofString "A"), .str (Str.ofString "abcdefghi"), .none, .int 7, .bool true, .list ([Str.ofString "a"].map .str), .tuple ([Str.ofString "a"].map .str), .dict [], .str (Str.ofString "a b")] :=
      .cons (od_str (by decide +kernel)) (.cons (od_str (by decide +kernel)) (.cons (od_str (by decide +kernel)) (.cons (od_str (by decide +kernel)) (.cons ⟨⟨.non, by decide +kernel⟩, rfl⟩ (.cons ⟨⟨.int 7, by decide +kernel⟩, rfl⟩ (.cons ⟨⟨.bl true, by decide +kernel⟩, rfl⟩
        (.cons ⟨⟨.lst (ws := [Str.ofString "a"]) (W4.get 3 rfl) sp1, by decide +kernel⟩, rfl⟩ (.cons ⟨⟨.tup (ws := [Str.ofString "a"]) (W4.get 2 rfl), by decide +kernel⟩, rfl⟩ (.cons ⟨⟨.dc0 (W4.get 1 rfl), by decide +kernel⟩, rfl⟩ (.cons (od_str (by decide +kernel)) .nil))))))))))
    have hb4 := W4.get 4 rfl
    walk_at "take"
    rename_i d5 x5 y5 z5 H5 d50 d51 ok5 kp5 hb5 W5
    obtain ⟨ov, oe, ha, od⟩ := pick PO d50 d51
    refine ⟨p4, _, _, ov, rfl, rfl, W5.sq 0 rfl, ha, ?_⟩
    have od5 := od.keepb hb4 kp5
    have W5b := W5.sel (L' := [(b, bagO x5 y5 z5)]) (.cons _ (.cons _ (.cons _ (.cons _ (.refl _)))))
    clear PO ha od W5 W4 W3 W2 W1 W hb4
    walk_at "rd"
    have hg5 := W5b.keep _ _ hg npg
    refine ⟨pg, _, rfl, .inl (.inl (.inl hg5)), ?_⟩
    refine ⟨_, _, rfl, rfl, ?_⟩
    rw [List.length_map]
    refine ⟨b, _, _, _, _, _, rfl, W5b.get 0 rfl, ok5, by omega, by omega, by omega, fun d x6 y6 z6 H6 d0 d1 ok6 k6 hb6 => ?_⟩
    have W6 := W5b.any1 0 rfl k6 hb6
    have od6 := od5.keepb hb5 k6
    obtain ⟨at_, rfl⟩ := Int.eq_ofNat_of_zero_le d0
    have hg6 := W6.keep _ _ hg npg
    have W6 : Ow H [b] H6 [(b, bagO x6 y6 z6)] := W6
    clear W5b hg5 od5
    walk_at "rd"
    -- first
    refine ⟨pg, _, rfl, .inl (.inl hg6), NewO.mk fun q1 I1 m1 j1 e1 => ?_⟩
    rw [cutV_to, ← List.map_take] at e1
    have V1 := W6.res (W6.call0 j1) m1 e1
    walk_at "rd"
    rename_i q2 I2 m2 s2 j2 e2 V2
    refine ⟨q1, q2, _, _, rfl, rfl, V2.get 1 rfl, V2.get 0 rfl, size_le (by rw [List.length_map, List.length_take]; simp; omega), NewS.mk fun q3 I3 m3 s3 j3 e3 => ?_⟩
    have V3 := V2.res (V2.call0 j3) m3 e3
    walk_at "rd"
    refine ⟨pg, _, rfl, .inl (.inl (V3.keep _ _ hg npg)), NewO.mk fun q4 I4 m4 j4 e4 => ?_⟩
    rw [cutV_from, ← List.map_drop] at e4
    have V4 := V3.res (V3.call0 j4) m4 e4
    refine ⟨q3, q4, _, _, rfl, rfl, V4.get 1 rfl, V4.get 0 rfl, size_le (by rw [List.length_append, List.length_map, List.length_take, List.length_map, List.length_drop]; simp; omega), NewS.mk fun q5 I5 m5 s5 j5 e5 => ?_⟩
    have V5 := (V4.res (V4.call0 j5) m5 e5).sel (L' := [(q5, _), (b, bagO x6 y6 z6)]) (.cons₂ _ (.cons _ (.cons _ (.cons _ (.cons _ (.refl _))))))
    clear V4 V3 V2 V1
    walk_at "rd"
    refine ⟨pg, _, rfl, .inl (.inl (V5.keep _ _ hg npg)), NewO.mk fun q6 I6 m6 j6 e6 => ?_⟩
    rw [show cutV (gs.map V.str) none (some 1) = (gs.map V.str).take 1 from cutV_to _ 1, ← List.map_take] at e6
    have V6 := V5.res (V5.call0 j6) m6 e6
    refine ⟨pg, q6, _, _, rfl, rfl, V6.keep _ _ hg npg, V6.get 0 rfl, size_le (by rw [List.length_map, List.length_map, List.length_take]; omega), NewS.mk fun q7 I7 m7 s7 j7 e7 => ?_⟩
    rw [← List.map_append] at e7
    have V7 := (V6.res (V6.call0 j7) m7 e7).sel (L' := [(q7, _), (q5, _), (b, bagO x6 y6 z6)]) (.cons₂ _ (.cons _ (.refl _)))
    clear V6 V5
    walk_at "rd"
    rename_i q8 I8 m8 s8 j8 e8 V8 q9 I9 m9 j9 e9 V9
    refine fun q10 m10 => ?_
    refine ⟨upd_same, [(Sum.inr (Str.ofString "staff"), .int 1)], rfl, by decide, ?_⟩
    rw [upd_again, show mergeK [] [((Sum.inr (Str.ofString "staff") : L2.Key), V.int 1)] = [(Sum.inr (Str.ofString "staff"), .int 1)] by simp [mergeK, putK]]
    have V10 := V9.new (o := .dK [(Sum.inr (Str.ofString "staff"), .int 1)]) m10
    have j10 : Keep [] I9 (upd I9 q10 (.dK [(Sum.inr (Str.ofString "staff"), .int 1)])) := keep_new m10
    generalize upd I9 q10 (.dK [(Sum.inr (Str.ofString "staff"), .int 1)]) = I10 at V10 j10 ⊢
    clear V9 V8 V7
    walk_at "rd"
    rename_i q11 I11 m11 s11 j11 e11 V11 q12 I12 m12 s12 j12 e12 V12
    have od12 := od6.keep (j1.trans (j2.trans (j3.trans (j4.trans (j5.trans (j6.trans (j7.trans (j8.trans (j9.trans (j10.trans (j11.trans j12)))))))))))
    refine ⟨pg, _, rfl, .inl (.inl (V12.keep _ _ hg npg)), NewO.mk fun q13 I13 m13 j13 e13 => ?_⟩
    rw [cutV_to, ← List.map_take] at e13
    have V13 := V12.res (V12.call0 j13) m13 e13
    walk_at "rd"
    rename_i q14 I14 m14 s14 j14 e14 V14
    refine ⟨q13, q14, _, _, rfl, rfl, V14.get 1 rfl, V14.get 0 rfl, size_le (by rw [List.length_map, List.length_take]; simp; omega), NewS.mk fun q15 I15 m15 s15 j15 e15 => ?_⟩
    have V15 := V14.res (V14.call0 j15) m15 e15
    walk_at "rd"
    rename_i q16 I16 m16 s16 j16 e16 V16
    refine ⟨q11, q16, _, _, rfl, rfl, V16.get 5 rfl, V16.get 0 rfl, size_le (by simp), NewS.mk fun q17 I17 m17 s17 j17 e17 => ?_⟩
    have V17 := V16.res (V16.call0 j17) m17 e17
    have od17 := od12.keep (j13.trans (j14.trans (j15.trans (j16.trans j17))))
    clear V16 V15 V14 V13 V12 V11 V10
    walk_at "rd"
    have hb17 : I17 b = some (bagO x6 y6 z6) := V17.get 12 rfl
    refine ⟨b, _, _, _, _, _, rfl, hb17, ok6, by omega, by omega, by omega, fun d x18 y18 z18 H18 d0 d1 ok18 k18 hb18 => ?_⟩
    have V18 := V17.any1 12 rfl k18 hb18
    have od18 := od17.keepb hb17 k18
    clear V17 od17 od12 od6 j1 j2 j3 j4 j5 j6 j7 j8 j9 j10 j11 j12 j13 j14 j15 j16 j17
    have tk : ∀ k, ∀ g ∈ gs.take k, g ∈ glN := fun k g h => gok.su g (List.mem_of_mem_take h)
    have dr : ∀ k, ∀ g ∈ gs.drop k, g ∈ glN := fun k g h => gok.su g (List.mem_of_mem_drop h)
    have fr := fun (i : Nat) (p : Addr) (o : HO) e ne => frAt V18 i 12 (p := p) (o := o) e rfl ne
    have PG : Paired (GN H H18) [V.ref q5, V.ref q7, V.ref q8, V.ref q9, V.non, V.str (Str.ofString "staff"), V.ref q10, V.int 5, V.ref q12, V.ref q15]
        [.list ((gs.take at_).map .str ++ [oe] ++ (gs.drop at_).map .str), .list ((gs ++ gs.take 1).map .str), .list [], .tuple [], .none, .str (Str.ofString "staff"), .dict [(.str (Str.ofString "staff"), .int 1)], .int 5, .list ([Str.ofString "a", Str.ofString "b", Str.ofString "c", Str.ofString "d", Str.ofString "e", Str.ofString "f", Str.ofString "g"].map .str), .list ((gs.take at_).map .str ++ [oe])] :=
      .cons (gn_ref (gw_lst (V18.get 11 rfl) s5 (((od_gl (tk _)).app (.cons od18 .nil)).app (od_gl (dr _))) (by
          rw [List.length_append, List.length_append, List.length_map, List.length_map, List.length_take, List.length_drop]; simp; omega)) (fr 11 _ _ rfl (by decide)))
        (.cons (gn_ref (gw_lst (V18.get 10 rfl) s7 (od_gl fun g hg => (List.mem_append.mp hg).elim (gok.su g) (tk _ g)) (by rw [List.length_map, List.length_append, List.length_take]; omega)) (fr 10 _ _ rfl (by decide)))
        (.cons (gn_ref (gw_lst (vs := []) (V18.get 9 rfl) s8 .nil (by decide)) (fr 9 _ _ rfl (by decide)))
        (.cons (gn_ref ⟨.tup (V18.get 8 rfl), by decide +kernel, fun z => by cases z⟩ (fr 8 _ _ rfl (by decide))) (.cons ⟨⟨.non, by decide +kernel, fun z => by cases z⟩, fun _ z => by cases z⟩ (.cons ⟨⟨.str _, by decide +kernel, fun z => by cases z⟩, fun _ z => by cases z⟩ (.cons (gn_ref ⟨.dct (V18.get 7 rfl) (.cons (.int 1) .nil), by decide +kernel, fun _ => rfl⟩ (fr 7 _ _ rfl (by decide))) (.cons ⟨⟨.int 5, by decide +kernel, fun z => by cases z⟩, fun _ z => by cases z⟩
        (.cons (gn_ref (gw_lst (V18.get 5 rfl) s12 (es := [Str.ofString "a", Str.ofString "b", Str.ofString "c", Str.ofString "d", Str.ofString "e", Str.ofString "f", Str.ofString "g"].map .str) (.cons (od_str (by decide +kernel)) (.cons (od_str (by decide +kernel)) (.cons (od_str (by decide +kernel)) (.cons (od_str (by decide +kernel)) (.cons (od_str (by decide +kernel)) (.cons (od_str (by decide +kernel)) (.cons (od_str (by decide +kernel)) .nil))))))) (by decide)) (fr 5 _ _ rfl (by decide)))
        (.cons (gn_ref (gw_lst (V18.get 2 rfl) s15 ((od_gl (tk _)).app (.cons od18 .nil)) (by rw [List.length_append, List.length_map, List.length_take]; simp; omega)) (fr 2 _ _ rfl (by decide))) .nil)))))))))
    obtain ⟨gv, ge, ha, gr⟩ := pick PG d0 d1
    refine ⟨q17, _, _, gv, rfl, rfl, V18.sq 0 rfl, ha, ?_⟩
    exact q gv ge _ _ _ H18 gr (ok18.mono (by omega)) V18.keep hb18
end
end K24
namespace K24
open PySem PySem.Spec PyProof.Rows L2 FR TL
open C8 (pss_cut pe_gc)
open StX (pe_callS2 pa_star)
/-! ### a dict that is spoilt -/
theorem putK_mem {kvs : List (L2.Key × V)} {k : L2.Key} {v : V} {kv : L2.Key × V} (h : kv ∈ putK kvs k v) : kv ∈ kvs ∨ (kv.1 = k ∧ kv.2 = v) := by
  unfold putK at h
  split at h
  · obtain ⟨x, hx, rfl⟩ := List.mem_map.mp h
    by_cases c : x.1 = k
    · rw [if_pos c]; exact .inr ⟨c, rfl⟩
    · rw [if_neg c]; exact .inl hx
  · rcases List.mem_append.mp h with h | h
    · exact .inl h
    · rw [List.mem_singleton.mp h]; exact .inr ⟨rfl, rfl⟩
theorem putK_nd {kvs : List (L2.Key × V)} {k : L2.Key} {v : V} (nd : (kvs.map (·.1)).Nodup) : ((putK kvs k v).map (·.1)).Nodup := by
  unfold putK
  split
  · rw [List.map_map]
    rw [show kvs.map ((fun x => x.1) ∘ fun kv => if kv.1 = k then (kv.1, v) else kv) = kvs.map (·.1) from List.map_congr_left fun e _ => by
      by_cases c : e.1 = k
      · simp [c]
      · simp [c]]
    exact nd
  · rename_i c
    rw [List.map_append, List.nodup_append]
    refine ⟨nd, by simp, fun a ha b hb => ?_⟩
    obtain ⟨e, he, rfl⟩ := List.mem_map.mp ha
    obtain rfl : b = k := by simpa using hb
    intro z
    exact c (List.any_eq_true.mpr ⟨e, he, decide_eq_true z⟩)
theorem putK_len {kvs : List (L2.Key × V)} {k : L2.Key} {v : V} : 1 ≤ (putK kvs k v).length ∧ (putK kvs k v).length ≤ kvs.length + 1 := by
  unfold putK
  split
  · rename_i c
    obtain ⟨e, he, _⟩ := List.any_eq_true.mp c
    rw [List.length_map]
    have := List.length_pos_of_mem he
    omega
  · rw [List.length_append, List.length_singleton]
    omega
theorem merge_ndK : ∀ (more acc : List (L2.Key × V)), ((acc ++ more).map (·.1)).Nodup → mergeK acc more = acc ++ more
  | [], acc, _ => by rw [List.append_nil]; rfl
  | e :: r, acc, nd => by
    have h1 : putK acc e.1 e.2 = acc ++ [e] := by
      unfold putK
      rw [if_neg]
      rw [List.any_eq_true]
      rintro ⟨x, hx, c⟩
      rw [List.map_append, List.nodup_append] at nd
      exact nd.2.2 _ (List.mem_map_of_mem hx) _ (List.mem_map_of_mem List.mem_cons_self) (of_decide_eq_true c)
    show mergeK (putK acc e.1 e.2) r = _
    rw [h1, merge_ndK r (acc ++ [e]) (by simpa using nd)]
    simp
structure FD (H : Hp) (d : Addr) (kvs : List (L2.Key × V)) : Prop where
  hd : H d = some (.dK kvs)
  nd : (kvs.map (·.1)).Nodup
  ok : ∀ kv ∈ kvs, keyOk kv.1 = true
  gw : ∀ kv ∈ kvs, ∃ e, GW H kv.2 e
  l : kvs.length ≤ 10
theorem FD.keep {H H' : Hp} {d : Addr} {kvs : List (L2.Key × V)} (h : FD H d kvs) (k : Keep [] H H') : FD H' d kvs :=
  ⟨k _ _ h.hd (by simp), h.nd, h.ok, fun kv hk => (h.gw kv hk).imp fun _ g => g.keep k, h.l⟩
theorem Od.far {H H' : Hp} {v : V} {e : PyData} {b d : Addr} {x y z : Int} {kvs : List (L2.Key × V)} (h : Od H v e) (hb : H b = some (bagO x y z)) (hd : H d = some (.dK kvs)) (ne : kvs ≠ []) (k : Keep [b, d] H H') : Od H' v e := by
  refine ⟨?_, h.a⟩
  obtain ⟨⟨hs, ob⟩, ha⟩ := h
  refine ⟨?_, ob⟩
  cases hs with
  | non => exact .non
  | bl b => exact .bl b
  | int i => exact .int i
  | str s => exact .str s
  | lst e b => exact .lst (k _ _ e (by
      simp only [List.mem_cons, List.not_mem_nil, or_false, not_or]
      exact ⟨ne_of e hb (Ne.symm bag_ne), ne_of e hd (fun z => by cases z)⟩)) b
  | tup e => exact .tup (k _ _ e (by
      simp only [List.mem_cons, List.not_mem_nil, or_false, not_or]
      exact ⟨ne_of e hb (fun z => by cases z), ne_of e hd (fun z => by cases z)⟩))
  | dc0 e => exact .dc0 (k _ _ e (by
      simp only [List.mem_cons, List.not_mem_nil, or_false, not_or]
      exact ⟨ne_of e hb (fun z => by cases z), ne_of e hd (fun z => ne (HO.dK.inj z).symm)⟩))
theorem GW.far {H H' : Hp} {v : V} {e : PyData} {b d : Addr} {x y z : Int} {kvs : List (L2.Key × V)} (h : GW H v e) (hb : H b = some (bagO x y z)) (hd : H d = some (.dK kvs)) (ne : kvs ≠ []) (n1 : v ≠ .ref b) (n2 : v ≠ .ref d) (k : Keep [b, d] H H') : GW H' v e := by
  refine ⟨?_, h.b, h.d⟩
  have hd2 := h.d
  have far : ∀ a o, v = .ref a → H a = some o → H' a = some o := fun a o ev ha => k _ _ ha (by
    simp only [List.mem_cons, List.not_mem_nil, or_false, not_or]
    exact ⟨fun z => n1 (by rw [ev, z]), fun z => n2 (by rw [ev, z])⟩)
  cases h.g with
  | lst h1 s o l => exact .lst (far _ _ rfl h1) s (Paired.mapP o fun _ _ r => r.far hb hd ne k) l
  | tup h1 => exact .tup (far _ _ rfl h1)
  | non => exact .non
  | str s => exact .str s
  | int i => exact .int i
  | @dct a kvs2 ds h1 h2 =>
    refine .dct (far _ _ rfl h1) ?_
    have e1 : ds = [(.str (Str.ofString "staff"), .int 1)] := PyData.dict.inj (hd2 rfl)
    rw [e1] at h2 ⊢
    generalize hx : (PyData.str (Str.ofString "staff")) = kx at h2 ⊢
    cases h2 with
    | cons a b =>
      cases a
      cases b
      exact .cons (.int 1) .nil
structure SS (H0 H : Hp) (b d : Addr) (kvs : List (L2.Key × V)) (x y z : Int) : Prop where
  fd : H0 d = none
  kp : Keep [b] H0 H
  hb : H b = some (bagO x y z)
  F : FD H d kvs
  ne : kvs ≠ []
  fr : ∀ kv ∈ kvs, kv.2 ≠ .ref b ∧ kv.2 ≠ .ref d
/-- the dict found gets a value at a key -/
theorem SS.put {H0 H H' : Hp} {b d : Addr} {kvs : List (L2.Key × V)} {x y z x' y' z' : Int} (h : SS H0 H b d kvs x y z) (k : Keep [b] H H') (hb : H' b = some (bagO x' y' z')) {key : L2.Key} {v : V} {e : PyData} (ok : keyOk key = true) (g : GN H H' v e) (l : kvs.length ≤ 9) :
    SS H0 (upd H' d (.dK (putK kvs key v))) b d (putK kvs key v) x' y' z' := by
  have nbd : b ≠ d := ne_of h.hb h.F.hd (fun z => by cases z)
  have hd' : H' d = some (.dK kvs) := k _ _ h.F.hd (by simpa using Ne.symm nbd)
  have k1 : Keep [b, d] H' (upd H' d (.dK (putK kvs key v))) := fun a o ha hm => by
    simp only [List.mem_cons, List.not_mem_nil, or_false, not_or] at hm
    rw [upd_ne hm.2]; exact ha
  have k2 : Keep [b, d] H (upd H' d (.dK (putK kvs key v))) := fun a o ha hm => by
    refine k1 _ _ (k _ _ ha ?_) hm
    simp only [List.mem_cons, List.not_mem_nil, or_false, not_or] at hm
    simpa using hm.1
  have gb : v ≠ .ref b := fun z => by have := g.2 _ z; rw [h.hb] at this; cases this
  have gd : v ≠ .ref d := fun z => by have := g.2 _ z; rw [h.F.hd] at this; cases this
  refine ⟨h.fd, fun a o ha hm => ?_, by rw [upd_ne nbd]; exact hb, ⟨upd_same, putK_nd h.F.nd, fun kv hk => ?_, fun kv hk => ?_, by have := (putK_len (kvs := kvs) (k := key) (v := v)).2; omega⟩, fun z => ?_, fun kv hk => ?_⟩
  · have := h.kp a o ha hm
    refine k2 _ _ this ?_
    simp only [List.mem_cons, List.not_mem_nil, or_false, not_or]
    exact ⟨by simpa using hm, fun e => by rw [e, h.fd] at ha; cases ha⟩
  · rcases putK_mem hk with hk | ⟨e1, e2⟩
    · exact h.F.ok kv hk
    · rw [e1]; exact ok
  · rcases putK_mem hk with hk | ⟨e1, e2⟩
    · obtain ⟨e3, g3⟩ := h.F.gw kv hk
      exact ⟨e3, g3.far h.hb h.F.hd h.ne (h.fr kv hk).1 (h.fr kv hk).2 k2⟩
    · rw [e2]
      exact ⟨e, g.1.far hb hd' h.ne gb gd k1⟩
  · have := (putK_len (kvs := kvs) (k := key) (v := v)).1
    rw [z] at this
    simp at this
  · rcases putK_mem hk with hk | ⟨e1, e2⟩
    · exact h.fr kv hk
    · rw [e2]; exact ⟨gb, gd⟩
end K24
namespace K24
open PySem PySem.Spec PyProof.Rows L2 FR TL
open C8 (pss_cut pe_gc)
open StX (pe_callS2 pa_star)
/-- the copies so far -/
structure TI (H0 HL : Hp) (D : Addr) (m : Mp) (i : Nat) (H' : Hp) : Prop where
  kp : Keep [] HL H'
  ex : ∃ (ps : List Addr) (kvs : List (L2.Key × V)), H' D = some (.lst (ps.map V.ref)) ∧ Paired (fun p (kv : L2.Key × V) => H' p = some (.tup [kV kv.1, kv.2])) ps kvs ∧ DM (fun v xs => ∃ q, v = .ref q ∧ H' q = some (.lst (xs.map V.str)) ∧ sysModules < q ∧ H0 q = none ∧ q ≠ D) kvs (m.take i)
structure MD (H : Hp) (a : Addr) (kvs : List (L2.Key × V)) (m : Mp) : Prop where
  ha : H a = some (.dK kvs)
  dm : DM (RL H) kvs m
  nd : (m.map (·.1)).Nodup
  us : Uss (m.map (·.1))
  l1 : 1 ≤ m.length
  l6 : m.length ≤ 6
  gs : ∀ e ∈ m, GsOk e.2
theorem pair_snoc {α β : Type} {R : α → β → Prop} {a : List α} {b : List β} {x : α} {y : β} (h : Paired R a b) (r : R x y) : Paired R (a ++ [x]) (b ++ [y]) := by
  induction h with
  | nil => exact .cons r .nil
  | cons q _ ih => exact .cons q ih
theorem TI.step {H0 HL H1 H3 : Hp} {D t q : Addr} {m : Mp} {i : Nat} {u : Str} {xs : List Str} (hD : HL D = none) (h : TI H0 HL D m i H1) (l6 : m.length ≤ 6) (hi : m[i]? = some (u, xs)) (k : Keep [] H1 H3) (ht : H3 t = some (.tup [.str u, .ref q]))
    (hq : H3 q = some (.lst (xs.map V.str))) (sq : sysModules < q) (fq : H0 q = none) (nqD : q ≠ D) :
    ∃ acc, H3 D = some (.lst acc) ∧ acc.length < sizeLine ∧ TI H0 HL D m (i + 1) (upd H3 D (.lst (acc ++ [.ref t]))) := by
  obtain ⟨ps, kvs, h1, pr, dm⟩ := h.ex
  have hD3 := k _ _ h1 (by simp)
  refine ⟨_, hD3, size_ok ?_, ?_, ps ++ [t], kvs ++ [(Sum.inr u, .ref q)], by rw [upd_same, List.map_append]; rfl, ?_, ?_⟩
  · have h2 := Paired.length pr
    have h3 := dm.len
    rw [List.length_take] at h3
    rw [List.length_map]
    omega
  · exact keep_free (h.kp.trans k) hD
  · have nt : ∀ {p : Addr} {ys : List V}, H3 p = some (.tup ys) → upd H3 D (.lst (ps.map V.ref ++ [.ref t])) p = some (.tup ys) := fun hp => by
      rw [upd_ne (ne_of hp hD3 (fun z => by cases z))]
      exact hp
    exact pair_snoc (Paired.mapP pr fun _ _ r => nt (k _ _ r (by simp))) (nt ht)
  · have e : m.take (i + 1) = m.take i ++ [(u, xs)] := by rw [List.take_add_one, hi]; rfl
    rw [e]
    have nl : ∀ {p : Addr} {ys : List V}, p ≠ D → H3 p = some (.lst ys) → upd H3 D (.lst (ps.map V.ref ++ [.ref t])) p = some (.lst ys) := fun np hp => by
      rw [upd_ne np]
      exact hp
    refine pair_snoc (Paired.mapP dm fun kv ee ⟨e0, q', e1, e2, e3, e4, e5⟩ => ⟨e0, q', e1, nl e5 (k _ _ e2 (by simp)), e3, e4, e5⟩) ⟨rfl, q, rfl, nl nqD hq, sq, fq, nqD⟩
theorem key_us {u : Str} (h : Us u) : keyOk (.inr u) = true := by
  have asc := h.1.asc
  have l1 := h.1.l1
  have e : u.length = u.cps.size := rfl
  have sh : SeqAt.shaped (dStrs [u]) = true := shaped_strs fun s hs => by rw [List.mem_singleton.mp hs]; exact asc
  have sh2 : SeqAt.shaped (.str u) = true := by
    unfold SeqAt.shaped dStrs at sh
    simp only [List.map_cons, List.map_nil, PyData.canLay0, PyData.canLayAll0, Bool.and_true, Bool.and_eq_true] at sh
    unfold SeqAt.shaped
    rw [Bool.and_eq_true]
    refine ⟨by simp only [PyData.canLay0]; exact sh.1, decide_eq_true (by simp only [PyData.depth]; omega)⟩
  unfold keyOk
  rw [Bool.and_eq_true]
  refine ⟨?_, List.all_eq_true.mpr fun c hc => decide_eq_true (asc c hc)⟩
  show okB (.str u) = true
  unfold okB
  have w1 : (PyData.str u).weight = u.cps.size := by simp only [PyData.weight]
  have s1 : (PyData.str u).showable = true := by simp only [PyData.showable]
  have d1 : (PyData.str u).depth ≤ 1 := by simp only [PyData.depth]; omega
  have v1 : (PyData.str u).leavesShort 40 = true := by
    simp only [PyData.leavesShort]
    refine List.all_eq_true.mpr fun c hc => decide_eq_true ?_
    have : c < 128 := asc c hc
    omega
  rw [s1, v1, sh2, decide_eq_true d1, decide_eq_true (by rw [w1]; omega)]
  rfl
theorem TI.done {K : PySem.W.Frag} {H H4 : Hp} {a D : Addr} {od : Obj} {kvs0 : List (L2.Key × V)} {m : Mp} (hu : H a = some (.dK kvs0)) (hD : (upd H a (.frz od (.dK kvs0))) D = none) (nd : (m.map (·.1)).Nodup) (h : TI H (upd H a (.frz od (.dK kvs0))) D m m.length H4) :
    ∃ (ps : List Addr) (kvs : List (L2.Key × V)), SqL K (upd H4 a (.dK kvs0)) D (ps.map V.ref) ∧ Paired (fun p (kv : L2.Key × V) => SqT K (upd H4 a (.dK kvs0)) p [kV kv.1, kv.2]) ps kvs ∧ mergeK [] kvs = kvs ∧
      DM (fun v xs => ∃ q, v = .ref q ∧ (upd H4 a (.dK kvs0)) q = some (.lst (xs.map V.str)) ∧ sysModules < q ∧ H q = none) kvs m ∧ Keep [] H (upd H4 a (.dK kvs0)) := by
  obtain ⟨ps, kvs, h1, pr, dm⟩ := h.ex
  rw [List.take_length] at dm
  have hf : H4 a = some (.frz od (.dK kvs0)) := h.kp _ _ upd_same (by simp)
  refine ⟨ps, kvs, .inl (.inl ?_), Paired.mapP pr fun _ _ r => .inl (.inl ?_), ?_, dm.imp fun v xs ⟨q, e1, e2, e3, e4, _⟩ => ⟨q, e1, ?_, e3, e4⟩, keep_lock hu h.kp⟩
  · rw [upd_ne (ne_of h1 hf (fun z => by cases z))]
    exact h1
  · rw [upd_ne (ne_of r hf (fun z => by cases z))]
    exact r
  · have := merge_ndK kvs [] (by
      rw [List.nil_append, dm.keys]
      exact List.Pairwise.map _ (fun _ _ h z => h (Sum.inr.inj z)) nd)
    exact this
  · rw [upd_ne (ne_of e2 hf (fun z => by cases z))]
    exact e2
theorem SS.start {H H2 : Hp} {b l : Addr} {x y z : Int} {kvs : List (L2.Key × V)} {m : Mp} (hb : H b = some (bagO x y z)) (k : Keep [] H H2) (fl : H l = none) (hl : H2 l = some (.dK kvs)) (nd : (m.map (·.1)).Nodup) (us : Uss (m.map (·.1))) (l1 : 1 ≤ m.length) (l6 : m.length ≤ 6) (gs : ∀ e ∈ m, GsOk e.2)
    (dm : DM (fun v xs => ∃ q, v = .ref q ∧ H2 q = some (.lst (xs.map V.str)) ∧ sysModules < q ∧ H q = none) kvs m) : SS H H2 b l kvs x y z := by
  refine ⟨fl, Keep.to1 k, k _ _ hb (by simp), ⟨hl, ?_, fun kv hk => ?_, fun kv hk => ?_, by rw [dm.len]; omega⟩, fun e => ?_, fun kv hk => ?_⟩
  · rw [dm.keys]
    exact List.Pairwise.map _ (fun _ _ h z => h (Sum.inr.inj z)) nd
  · obtain ⟨i, hi⟩ := List.getElem?_of_mem hk
    obtain ⟨e, he, ek, _⟩ := dm.get (k := kv.1) (v := kv.2) hi
    rw [ek]
    exact key_us (us _ (List.mem_map_of_mem (List.mem_of_getElem? he)))
  · obtain ⟨i, hi⟩ := List.getElem?_of_mem hk
    obtain ⟨e, he, ek, q, eq, h1, h2, h3⟩ := dm.get (k := kv.1) (v := kv.2) hi
    have g := gs e (List.mem_of_getElem? he)
    rw [eq]
    exact ⟨_, gw_lst h1 h2 (od_gl g.su) (by rw [List.length_map]; have := g.l6; omega)⟩
  · have := dm.len
    rw [e] at this
    simp at this
    omega
  · obtain ⟨i, hi⟩ := List.getElem?_of_mem hk
    obtain ⟨e, he, ek, q, eq, h1, h2, h3⟩ := dm.get (k := kv.1) (v := kv.2) hi
    rw [eq]
    exact ⟨fun z => (by rw [V.ref.inj z, hb] at h3; cases h3), fun z => (by rw [V.ref.inj z, hl] at h1; cases h1)⟩
theorem SS.go {H0 H H' : Hp} {b d : Addr} {kvs : List (L2.Key × V)} {x y z x' y' z' : Int} (h : SS H0 H b d kvs x y z) (k : Keep [b] H H') (hb : H' b = some (bagO x' y' z')) : SS H0 H' b d kvs x' y' z' := by
  have nbd : b ≠ d := ne_of h.hb h.F.hd (fun z => by cases z)
  refine ⟨h.fd, fun a o ha hm => k _ _ (h.kp a o ha hm) hm, hb, ⟨k _ _ h.F.hd (by simpa using Ne.symm nbd), h.F.nd, h.F.ok, fun kv hk => ?_, h.F.l⟩, h.ne, h.fr⟩
  obtain ⟨e, g⟩ := h.F.gw kv hk
  exact ⟨e, g.far h.hb h.F.hd h.ne (h.fr kv hk).1 (h.fr kv hk).2 fun a o ha hm => k _ _ ha (by
    simp only [List.mem_cons, List.not_mem_nil, or_false, not_or] at hm
    simpa using hm.1)⟩
theorem MD.go {H H' : Hp} {a b : Addr} {x y z : Int} {kvs : List (L2.Key × V)} {m : Mp} (h : MD H a kvs m) (hb : H b = some (bagO x y z)) (k : Keep [b] H H') : MD H' a kvs m := by
  have nba : b ≠ a := ne_of hb h.ha (fun z => by cases z)
  exact ⟨k _ _ h.ha (by simpa using Ne.symm nba), h.dm.imp fun _ _ ⟨p, e, r⟩ => ⟨p, e, k _ _ r (by simpa using ne_of r hb (Ne.symm bag_ne))⟩, h.nd, h.us, h.l1, h.l6, h.gs⟩
theorem DM.noI {R : V → List Str → Prop} {kvs : List (L2.Key × V)} {m : Mp} (h : DM R kvs m) (i : Int) : valV kvs (Sum.inl i) = none := by
  unfold DM at h
  induction h with
  | nil => rfl
  | cons h t ih => rw [valV_neg (by rw [h.1]; exact fun z => by cases z)]; exact ih
/-- what members.get(key, ..) gives -/
theorem MD.get {H : Hp} {a p : Addr} {kvs : List (L2.Key × V)} {m : Mp} (h : MD H a kvs m) (hp : H p = some (.lst [.str (Str.ofString "a")])) (key : L2.Key) : ∃ pg gs, (valV kvs key).getD (.ref p) = .ref pg ∧ H pg = some (.lst (gs.map V.str)) ∧ GsOk gs := by
  have dflt : valV kvs key = none → ∃ pg gs, (valV kvs key).getD (.ref p) = .ref pg ∧ H pg = some (.lst (gs.map V.str)) ∧ GsOk gs := fun e =>
    ⟨p, [Str.ofString "a"], by rw [e]; rfl, hp, ⟨fun g hg => by rw [List.mem_singleton.mp hg]; decide +kernel, by simp, by decide, by decide⟩⟩
  cases key with
  | inl i => exact dflt (h.dm.noI i)
  | inr u =>
    by_cases c : u ∈ m.map (·.1)
    · obtain ⟨v, e1, pg, rfl, e2⟩ := h.dm.val c
      obtain ⟨e, he, rfl⟩ := List.mem_map.mp c
      rw [mget_mem h.nd he] at e2
      exact ⟨pg, e.2, by rw [e1]; rfl, e2, h.gs e he⟩
    · exact dflt (h.dm.no c)
theorem freeB {H H' : Hp} {a b : Addr} {o : HO} (k : Keep [b] H H') (hb : H' b = some o) (h : H' a = none) : H a = none := by
  cases e : H a with
  | none => rfl
  | some u =>
    by_cases c : a = b
    · rw [c, hb] at h; cases h
    · rw [k _ _ e (by simpa using c)] at h; cases h
def uk (i : Nat) : Str := Str.ofString "u" ++ ⟨#[97 + i]⟩
theorem uk_ok {i : Nat} (h : i < 11) : keyOk (.inr (uk i)) = true := (by decide +kernel : ∀ i : Fin 11, keyOk (.inr (uk i.1)) = true) ⟨i, h⟩
theorem uk_inj {i j : Nat} (h : i < 11) (g : j < 11) (e : uk i = uk j) : i = j := by
  have : ∀ i j : Fin 11, uk i.1 = uk j.1 → i = j := by decide +kernel
  exact congrArg Fin.val (this ⟨i, h⟩ ⟨j, g⟩ e)
section
variable {P : Program} {w : World} {K : PySem.W.Frag} {mg : Str → Option Value} {base : Heap} {A : Ads}
set_option pp.maxSteps 400
/-- what comes of it: a dict, or a thing that is none -/
def sB (e : PyData) : Bool := e.showable && decide (e.depth ≤ 10) && e.leavesShort 40 && decide (e.weight ≤ 23000)
inductive Spo (H : Hp) (v : V) : Prop
  | odd (e : PyData) : Dq H v e → sB e = true → isDc e = false → Spo H v
  | dct (a : Addr) (kvs : List (L2.Key × V)) : v = .ref a → FD H a kvs → Spo H v
def spSpoilt : Sp := fun vs H Q _ => ∃ (b a : Addr) (n : Nat) (x y z : Int) (kvs : List (L2.Key × V)) (m : Mp), vs = [.ref b, .ref a] ∧ H b = some (bagO x y z) ∧ MD H a kvs m ∧ BagOk n x y z ∧ n < 700000 ∧
  ∀ v H', Spo H' v → Keep [b] H H' → Q v H'
theorem ok_spoilt (T : Txt K mg A) : FnOk P w K mg base CX0 3 A.f_spoilt A.d_spoilt ["_law_bag_here", "_law_members"] spSpoilt := by
  refine T.F_spoilt.ok sc_spoilt (fun vs H Q E h => ?_) (fun cdv A_ outer s_ H vs Q E hr h => ?_)
  · obtain ⟨b, a, n, x, y, z, kvs, m, rfl, _⟩ := h
    rfl
  · obtain ⟨b, a, n, x, y, z, kvs0, m0, rfl, hb, M, ok, hn, q⟩ := h
    have ha := M.ha
    have nba : b ≠ a := ne_of hb ha (fun z => by cases z)
    refine ⟨_, (pss_cons (ps_set (i := 2) sc_spoilt.nd rfl (.inl rfl) (pe_callTy (call_dictP rfl) (by rfl) T.b_dict (by decide +kernel) (pa_cons (pe_lock (pe_lc (own := [("_law_user", 6), ("_law_groups", 8)]) (g := gTup K 2 (gCons (gName 6) (gCons (gName 8) gNil))) rfl sc_spoilt.nd (pi_items (pv 1)) (blkOk_by (own := [("_law_user", 6), ("_law_groups", 8)]) (N := N_spoilt) (sc := defScope s_spoilt) (by decide +kernel)) (fun _ _ _ _ _ => (pg_tup rfl (pgs_cons (pg_name (i := 6) sc_spoilt.nd rfl (.inl rfl)) (pgs_cons (pg_name (i := 8) sc_spoilt.nd rfl (.inl rfl)) pgs_nil)))) (fun _ _ _ _ _ => pts_nil) (fun _ _ _ _ _ => (pe_tupN (pa_cons (pv 6) (pa_cons (pe_callTy (call_lofS (K := K) rfl) (by rfl) T.b_list (by decide +kernel) (pa_cons (pv 8) pa_nil)) pa_nil)))))) pa_nil)))
  (pss_cons (ps_set (i := 3) sc_spoilt.nd rfl (.inl rfl) (pe_cmpR op_eq (pe_call (ok_take T) (hr.mono (by decide)) (by rfl) T.g_take T.F_take.kp T.B_take .nil pass0 (pa_cons (pv 0) (pa_cons pe_int pa_nil))) pe_int (nomark _)))
  (pss_cons (ps_for PassesOwn.never rfl (pi_range1 (by rfl) T.b_range (pa_cons (pe_op op_add pe_int (pe_call (ok_take T) (hr.mono (by decide)) (by rfl) T.g_take T.F_take.kp T.B_take .nil pass0 (pa_cons (pv 0) (pa_cons pe_int pa_nil)))) pa_nil)) (pg_name (i := 4) sc_spoilt.nd rfl (.inl rfl)) (pss_cons (ps_set (i := 5) sc_spoilt.nd rfl (.inl rfl) (pe_call (ok_take T) (hr.mono (by decide)) (by rfl) T.g_take T.F_take.kp T.B_take .nil pass0 (pa_cons (pv 0) (pa_cons pe_int pa_nil))))
  (pss_cons (ps_set (i := 6) sc_spoilt.nd rfl (.inl rfl) (pe_ix ix_list (pe_callTy (call_listD rfl) (by rfl) T.b_list (by decide +kernel) (pa_cons (pv 2) pa_nil)) (pe_call (ok_take T) (hr.mono (by decide)) (by rfl) T.g_take T.F_take.kp T.B_take .nil pass0 (pa_cons (pv 0) (pa_cons (pe_callB call_lenD (by rfl) T.b_len PySem.boot_len (pa_cons (pv 2) pa_nil)) pa_nil))) (fun _ _ => rfl)))
  (pss_one (ps_if (pt_cmpR op_lt (pv 5) pe_int (nomark _)) (pss_one (ps_asg (pe_call (ok_bad_groups T) (hr.mono (by decide)) (by rfl) T.g_bad_groups T.F_bad_groups.kp T.B_bad_groups .nil pass0 (pa_cons (pv 0) (pa_cons (pe_dget2 (hu_of hr) (pv 1) (pv 6) (pe_lstS (pa_cons pe_str pa_nil)) ⟨by rfl, by rfl, by rfl, by rfl⟩) pa_nil))) (pg_sub (pv 2) (pv 6) (set_dict (hu_of hr))))) (pss_one (ps_if (pt_cmpR op_eq (pv 5) pe_int (nomark _)) (pss_one (ps_asg (pe_lstS (pa_cons pe_str pa_nil)) (pg_sub (pv 2) (pe_ix ix_list (pe_lstS (pa_cons pe_str (pa_cons pe_str (pa_cons pe_str (pa_cons pe_str (pa_cons pe_int (pa_cons pe_str pa_nil))))))) (pe_call (ok_take T) (hr.mono (by decide)) (by rfl) T.g_take T.F_take.kp T.B_take .nil pass0 (pa_cons (pv 0) (pa_cons pe_int pa_nil))) (fun _ _ => rfl)) (set_dict (hu_of hr))))) (pss_one (ps_if (pt_cmpR op_eq (pv 5) pe_int (nomark _)) (pss_one (ps_asg (pe_op op_catS (pe_slice sl_listN (pe_lstS (pa_cons pe_str (pa_cons pe_str (pa_cons pe_str pa_nil)))) po_none (po_some (pe_op op_add pe_int (pe_call (ok_take T) (hr.mono (by decide)) (by rfl) T.g_take T.F_take.kp T.B_take .nil pass0 (pa_cons (pv 0) (pa_cons pe_int pa_nil)))))) (pe_slice sl_listN (pe_lstS (pa_cons pe_str (pa_cons pe_str pa_nil))) po_none (po_some (pe_call (ok_take T) (hr.mono (by decide)) (by rfl) T.g_take T.F_take.kp T.B_take .nil pass0 (pa_cons (pv 0) (pa_cons pe_int pa_nil)))))) (pg_sub (pv 2) (pv 6) (set_dict (hu_of hr))))) pss_nil)))))))))
  (pss_cons (ps_if (pt_val (pv 3)) (pss_cons (ps_set (i := 7) sc_spoilt.nd rfl (.inl rfl) (pe_callTy (call_dictP rfl) (by rfl) T.b_dict (by decide +kernel) (pa_cons (pe_lc (own := [("_law_k", 9)]) (g := gName 9) rfl sc_spoilt.nd (pi_range1 (by rfl) T.b_range (pa_cons (pe_op op_add pe_int (pe_call (ok_take T) (hr.mono (by decide)) (by rfl) T.g_take T.F_take.kp T.B_take .nil pass0 (pa_cons (pv 0) (pa_cons pe_int pa_nil)))) pa_nil)) (blkOk_by (own := [("_law_k", 9)]) (N := N_spoilt) (sc := defScope s_spoilt) (by decide +kernel)) (fun _ _ _ _ _ => pg_name (i := 9) sc_spoilt.nd rfl (Or.inl rfl)) (fun _ _ _ _ _ => pts_nil) (fun _ _ _ _ _ => (pe_tupN (pa_cons (pe_op op_add_str pe_str (pe_ix ix_str pe_str (pv 9) (fun _ _ => rfl))) (pa_cons (pe_lstS (pa_cons pe_str pa_nil)) pa_nil))))) pa_nil)))
  (pss_one (ps_ret (pe_ix ix_list (pe_lstS (pa_cons pe_non (pa_cons pe_int (pa_cons (pe_lstS pa_nil) (pa_cons pe_dnewN (pa_cons pe_str (pa_cons (pe_lstS (pa_cons (pe_tupN (pa_cons pe_str (pa_cons (pe_lstS (pa_cons pe_str pa_nil)) pa_nil))) pa_nil)) (pa_cons (pv 7) pa_nil)))))))) (pe_call (ok_take T) (hr.mono (by decide)) (by rfl) T.g_take T.F_take.kp T.B_take .nil pass0 (pa_cons (pv 0) (pa_cons pe_int pa_nil))) (fun _ _ => rfl))))) pss_nil)
  (pss_one (ps_ret (pv 2))))))), ?_⟩
    refine ⟨a, _, ha, trivial, fun od => ?_⟩
    refine ⟨_, rfl, a, od, _, rfl, upd_same, fun D hD => ?_⟩
    have fD : H D = none := by
      cases e : H D with
      | none => rfl
      | some o =>
        by_cases c : D = a
        · rw [c, upd_same] at hD; cases hD
        · rw [upd_ne c, e] at hD; cases hD
    refine lc_it walk_items (fun i H' => TI H (upd H a (.frz od (.dK kvs0))) D m0 i H') ⟨keep_new hD, [], [], upd_same, .nil, .nil⟩ (fun i H' _ h => h.kp _ _ upd_same (by simp)) (fun i v H4 H5 hi h4 y4 => ?_) (fun H4 h4 => ?_)
    · obtain ⟨Tp, x1, x2, rfl, nT, rfl, e1, e2⟩ := y4
      have hl : i < kvs0.length := hi
      obtain ⟨e, hm, ek, q0, er, hr⟩ := M.dm.get (show kvs0[i]? = some (kvs0[i].1, kvs0[i].2) from List.getElem?_eq_getElem hl)
      have e1 : kvs0[i]?.map (fun kv => kV kv.1) = some x1 := e1
      have e2 : kvs0[i]?.map Prod.snd = some x2 := e2
      rw [List.getElem?_eq_getElem hl] at e1 e2
      have e1 : kV kvs0[i].1 = x1 := Option.some.inj e1
      have e2 : kvs0[i].2 = x2 := Option.some.inj e2
      rw [ek] at e1
      rw [er] at e2
      subst e1 e2
      have k5 := keep_new (o := .tup [kV (Sum.inr e.1), .ref q0]) nT
      have hq5 : (upd H4 Tp (.tup [kV (Sum.inr e.1), .ref q0])) q0 = some (.lst (e.2.map V.str)) := by
        refine k5 _ _ (h4.kp _ _ ?_ (by simp)) (by simp)
        rw [upd_ne (ne_of hr ha (fun z => by cases z))]
        exact hr
      have nD4 : H4 D ≠ none := fun z => by
        obtain ⟨_, _, h1, _⟩ := h4.ex
        rw [h1] at z; cases z
      refine ⟨Tp, _, rfl, .inl (.inl upd_same), rfl, ?_⟩
      walk_at "rd"
      refine ⟨q0, _, rfl, .inl (.inl hq5), NewS.mk fun q6 H6 n6 s6 k6 h6 => ?_⟩
      walk_at "rd"
      refine ⟨(show 2 ≤ sizeLine by decide), NewO.mk fun t7 H7 n7 k7 h7 => ?_⟩
      have k57 := (k5.trans k6).trans k7
      refine h4.step hD M.l6 hm k57 h7 (k7 _ _ h6 (by simp)) s6 ?_ fun z => ?_
      · have f5 := k5.free n6
        have f4 := h4.kp.free f5
        cases e : H q6 with
        | none => rfl
        | some o =>
          by_cases c : q6 = a
          · rw [c, upd_same] at f4; cases f4
          · rw [upd_ne c, e] at f4; cases f4
      · subst z
        exact nD4 (k5.free n6)
    · have lk : kvs0.length = m0.length := M.dm.len
      rw [lk] at h4
      refine ⟨h4.kp _ _ upd_same (by simp), ?_⟩
      obtain ⟨ps1, kv1, s1, s2, s3, s4, kk1⟩ := TI.done (K := K) ha hD M.nd h4
      refine ⟨D, ps1, kv1, rfl, s1, s2, fun l1 n1 => ?_⟩
      rw [s3]
      have K2 := kk1.trans (keep_new (o := .dK kv1) n1)
      have S2 := SS.start (x := x) (y := y) (z := z) hb K2 (kk1.free n1) (upd_same (a := l1)) M.nd M.us M.l1 M.l6 M.gs (s4.imp fun v xs ⟨q, e1, e2, e3, e4⟩ => ⟨q, e1, keep_new n1 _ _ e2 (by simp), e3, e4⟩)
      have lkv : kv1.length ≤ 6 := by rw [s4.len]; exact M.l6
      generalize upd (upd H4 a (.dK kvs0)) l1 (.dK kv1) = H2 at S2 K2 ⊢
      clear s1 s2 s3 s4 h4 n1 hD kk1 fD
      have W2 : Ow H2 [b] H2 [(b, bagO x y z)] := Ow.start1 S2.hb
      walk_at "rd"
      walk_at "take"
      rename_i d3 x3 y3 z3 H3 d30 d31 ok3 kp3 hb3 W3
      have S3 := S2.go kp3 hb3
      clear S2 W2 W3
      generalize hb2 : H2 b = ob at kp3
      clear hb2 K2
      walk_at "rd"
      have W3 : Ow H3 [b] H3 [(b, bagO x3 y3 z3)] := Ow.start1 S3.hb
      walk_at "take"
      rename_i d4 x4 y4 z4 H4 d40 d41 ok4 kp4 hb4 W4
      have S4 := S3.go kp4 hb4
      clear S3 W3 W4
      walk_at "rd"
      refine for_rg (fun i σ H' => ∃ kvs x y z y4 y5 y6, σ = [some (.ref b), some (.ref a), some (.ref l1), some (.bl (decide (V.int d3 = V.int 0))), y4, y5, y6, none, none, none] ∧ SS H H' b l1 kvs x y z ∧ BagOk (n + 2 + 20 * i) x y z ∧ kvs.length ≤ 6 + i) ⟨kv1, _, _, _, _, _, _, rfl, S4, ok4.mono (by omega), by omega⟩ ?_ ?_
      · rintro i σ Hi hi ⟨kvs, xi, yi, zi, y4, y5, y6, rfl, S, oki, lk⟩
        have hi : i < 2 := by omega
        have Wi : Ow Hi [b] Hi [(b, bagO xi yi zi)] := Ow.start1 S.hb
        walk_at "rd"
        walk_at "take"
        rename_i d5 x5 y5 z5 H5 d50 d51 ok5 kp5 hb5 W5
        have S5 := S.go kp5 hb5
        clear S Wi
        have W5 : Ow H5 [b] H5 [(b, bagO x5 y5 z5)] := Ow.start1 hb5
        walk_at "rd"
        refine ⟨l1, kvs, rfl, .inl S5.F.hd, fun pk nk => ?_⟩
        have W6 := W5.new (o := .lst (kvs.map fun kv => kV kv.1)) nk
        have k6 : Keep [b] H5 (upd H5 pk (.lst (kvs.map fun kv => kV kv.1))) := Keep.to1 (keep_new nk)
        generalize upd H5 pk (.lst (kvs.map fun kv => kV kv.1)) = H6 at W6 k6 ⊢
        have S6 := S5.go k6 (W6.get 1 rfl)
        walk_at "rd"
        refine ⟨l1, kvs, rfl, S6.F.hd, ?_⟩
        have kpos : 0 < kvs.length := List.length_pos_iff.mpr S6.ne
        refine ⟨b, _, _, _, _, _, rfl, S6.hb, ok5, by omega, by omega, by omega, fun d x7 y7 z7 H7 d0 d1 ok7 k7 hb7 => ?_⟩
        have W7 := W6.any1 1 rfl k7 hb7
        have S7 := S6.go k7 hb7
        obtain ⟨t, rfl⟩ := Int.eq_ofNat_of_zero_le d0
        have tl : t < kvs.length := by omega
        refine ⟨pk, _, _, kV kvs[t].1, rfl, rfl, W7.sq 0 rfl, atI_nat (by rw [List.getElem?_map, List.getElem?_eq_getElem tl]; rfl), ?_⟩
        have kok := S7.F.ok kvs[t] (List.getElem_mem tl)
        generalize kvs[t].1 = key at kok ⊢
        clear S5 S6 W5 W6 W7
        have W7 : Ow H7 [b] H7 [(b, bagO x7 y7 z7)] := Ow.start1 hb7
        have hd7 := S7.F.hd
        have nlb : l1 ∉ [b] := by simpa using (ne_of hd7 hb7 (fun z => by cases z))
        have fin : ∀ {H8 : Hp} {x8 y8 z8 : Int} {k : L2.Key} {v : V} {e : PyData}, Keep [b] H7 H8 → H8 b = some (bagO x8 y8 z8) → keyOk k = true → GN H7 H8 v e → SS H (upd H8 l1 (.dK (putK kvs k v))) b l1 (putK kvs k v) x8 y8 z8 ∧ (putK kvs k v).length ≤ 6 + (i + 1) := fun {H8 x8 y8 z8 k v e} k8 hb8 ok8 g => ⟨S7.put k8 hb8 ok8 g (by omega), by have := (putK_len (kvs := kvs) (k := k) (v := v)).2; omega⟩
        walk_at "rd"
        refine ite2 (fun c => ?_) (fun c => ?_)
        · walk_at "rd"
          have M7 := M.go hb S7.kp
          refine ⟨.inl ⟨_, .inl M7.ha⟩, ?_⟩
          walk_at "rd"
          rename_i p8 H8 np8 sp8 kp8 hp8 W8
          have hb8 := W8.get 1 rfl
          have M8 := M7.go hb7 (Keep.to1 kp8)
          refine ⟨valV kvs0 key, .inl ⟨kvs0, key, .inl M8.ha, rfl, rfl⟩, ?_⟩
          obtain ⟨pg, gs, eg, hpg, gok⟩ := M8.get hp8 key
          rw [eg]
          walk_at "rd"
          refine ⟨b, pg, gs, _, _, _, _, rfl, hb8, hpg, gok, ok7, by omega, fun v e x9 y9 z9 H9 gn ok9 k9 hb9 => ?_⟩
          have k79 := (Keep.to1 (p := b) kp8).trans k9
          walk_at "rd"
          refine ⟨l1, _, rfl, .inl ⟨kvs, key, k79 _ _ hd7 nlb, rfl, size_ok (by omega), rfl⟩, ?_⟩
          obtain ⟨f1, f2⟩ := fin k79 hb9 kok (v := v) (e := e) ⟨gn.1, fun c z => kp8.free (gn.2 c z)⟩
          exact ⟨_, _, _, _, _, _, _, rfl, f1, ok9.mono (by omega), f2⟩
        have c : ¬ d5 < 3 := by simpa using c
        walk_at "rd"
        refine ifVI (fun c3 => ?_) (fun c3 => ?_)
        · walk_at "rd"
          rename_i p8 H8 np8 sp8 kp8 hp8 W8 p9 H9 np9 sp9 kp9 hp9 W9
          walk_at "take"
          rename_i d10 x10 y10 z10 H10 d100 d101 ok10 kp10 hb10 W10
          have PK : Paired (fun (v : V) (_ : PyData) => ∃ k, v = kV k ∧ keyOk k = true) [V.str (Str.ofString "root"), V.str (Str.ofString ""), V.str (Str.ofString "A1"), V.str (Str.ofString "abcdefghi"), V.int 7, V.str (Str.ofString "a b")] [.none, .none, .none, .none, .none, .none] :=
            .cons ⟨.inr _, rfl, by decide +kernel⟩ (.cons ⟨.inr _, rfl, by decide +kernel⟩ (.cons ⟨.inr _, rfl, by decide +kernel⟩ (.cons ⟨.inr _, rfl, by decide +kernel⟩ (.cons ⟨.inl 7, rfl, by decide +kernel⟩ (.cons ⟨.inr _, rfl, by decide +kernel⟩ .nil)))))
          obtain ⟨_, _, hat, k2, rfl, kok2⟩ := pick PK d100 d101
          refine ⟨p9, _, _, _, rfl, rfl, W10.sq 0 rfl, hat, ?_⟩
          walk_at "rd"
          refine ⟨l1, _, rfl, .inl ⟨kvs, k2, W10.keep _ _ hd7 nlb, rfl, size_ok (by omega), rfl⟩, ?_⟩
          obtain ⟨f1, f2⟩ := fin W10.keep hb10 kok2 (v := .ref p8) (e := .list ([Str.ofString "staff"].map .str)) (gn_ref (gw_lst (W10.get 1 rfl) sp8 (.cons (od_str (by decide +kernel)) .nil) (by decide)) np8)
          exact ⟨_, _, _, _, _, _, _, rfl, f1, ok10.mono (by omega), f2⟩
        walk_at "rd"
        refine ifVI (fun c4 => ?_) (fun c4 => ?_)
        · walk_at "rd"
          rename_i p8 H8 np8 sp8 kp8 hp8 W8
          walk_at "take"
          rename_i d9 x9 y9 z9 H9 d90 d91 ok9 kp9 hb9 W9
          obtain ⟨r, rfl⟩ := Int.eq_ofNat_of_zero_le d90
          walk_at "rd"
          refine ⟨p8, _, rfl, W9.sq 0 rfl, NewO.mk fun p10 H10 n10 k10 h10 => ?_⟩
          rw [show (1 : Int) + (r : Int) = ((1 + r : Nat) : Int) by omega, cutV_to] at h10
          have h10 : H10 p10 = some (.lst (([Str.ofString "more", Str.ofString "fresh", Str.ofString "other"].take (1 + r)).map V.str)) := by rw [List.map_take]; exact h10
          have W10 := W9.res (W9.call0 k10) n10 h10
          walk_at "rd"
          rename_i p11 H11 np11 sp11 kp11 hp11 W11
          walk_at "take"
          rename_i d12 x12 y12 z12 H12 d120 d121 ok12 kp12 hb12 W12
          obtain ⟨r2, rfl⟩ := Int.eq_ofNat_of_zero_le d120
          walk_at "rd"
          refine ⟨p11, _, rfl, W12.sq 0 rfl, NewO.mk fun p13 H13 n13 k13 h13 => ?_⟩
          rw [cutV_to] at h13
          have h13 : H13 p13 = some (.lst (([Str.ofString "x", Str.ofString "y"].take r2).map V.str)) := by rw [List.map_take]; exact h13
          have W13 := W12.res (W12.call0 k13) n13 h13
          refine ⟨p10, p13, _, _, rfl, rfl, W13.get 2 rfl, W13.get 0 rfl, size_le (by rw [List.length_map, List.length_map, List.length_take, List.length_take]; simp; omega), NewS.mk fun p14 H14 n14 s14 k14 h14 => ?_⟩
          have W14 := (W13.res (W13.call0 k14) n14 h14).sel (L' := [(p14, _), (b, bagO x12 y12 z12)]) (.cons₂ _ (.cons _ (.cons _ (.cons _ (.cons _ (.refl _))))))
          have all : ([Str.ofString "more", Str.ofString "fresh", Str.ofString "other", Str.ofString "x", Str.ofString "y"].all fun s => okB (.str s) && ascB (.str s)) = true := by decide +kernel
          have ods : ∀ xs : List Str, (∀ s ∈ xs, s ∈ [Str.ofString "more", Str.ofString "fresh", Str.ofString "other", Str.ofString "x", Str.ofString "y"]) → Ods H14 (xs.map V.str) (xs.map PyData.str) := fun xs => by
            induction xs with
            | nil => exact fun _ => .nil
            | cons a r ih => exact fun h => .cons (od_str (List.all_eq_true.mp all a (h a List.mem_cons_self))) (ih fun s hs => h s (List.mem_cons_of_mem _ hs))
          walk_at "rd"
          refine ⟨l1, _, rfl, .inl ⟨kvs, key, W14.keep _ _ hd7 nlb, rfl, size_ok (by omega), rfl⟩, ?_⟩
          obtain ⟨f1, f2⟩ := fin W14.keep (W14.get 1 rfl) kok (v := .ref p14) (gn_ref (gw_lst (W14.get 0 rfl) s14 ((ods _ fun s hs => by
              have := List.mem_of_mem_take hs
              simp only [List.mem_cons, List.not_mem_nil, or_false] at this ⊢
              rcases this with h | h | h <;> simp [h]).app (ods _ fun s hs => by
              have := List.mem_of_mem_take hs
              simp only [List.mem_cons, List.not_mem_nil, or_false] at this ⊢
              rcases this with h | h <;> simp [h])) (by rw [List.length_append, List.length_map, List.length_map, List.length_take, List.length_take]; simp; omega)) (frAt W14 0 1 rfl rfl (by decide)))
          exact ⟨_, _, _, _, _, _, _, rfl, f1, ok12.mono (by omega), f2⟩
        · exact absurd (show d5 = 4 by omega) (by omega)
      · rintro σ H5 ⟨kvs, x5, y5, z5, y4, y5', y6, rfl, S, ok5, lk⟩
        have ok5 : BagOk (n + 50) x5 y5 z5 := ok5.mono (by omega)
        have lk : kvs.length ≤ 10 := by omega
        clear S4 ok4 ok3
        walk_at "rd"
        refine ifB (fun c => ?_) (fun c => ?_)
        · clear lk
          have hb5 := S.hb
          have kp5 := S.kp
          clear S
          have W5 : Ow H5 [b] H5 [(b, bagO x5 y5 z5)] := Ow.start1 hb5
          walk_at "rd"
          walk_at "take"
          rename_i d6 x6 y6 z6 H6 d60 d61 ok6 kp6 hb6 W6
          walk_at "rd"
          intro D2 hD2
          refine lc_rg (fun i H' => ∃ (ps : List Addr) (kvs : List (L2.Key × V)), Ow H5 [b] H' [(D2, .lst (ps.map V.ref)), (b, bagO x6 y6 z6)] ∧ ps.length = i ∧ Paired (fun p kv => H' p = some (.tup [kV kv.1, kv.2])) ps kvs ∧ kvs.map (·.1) = (List.range i).map (fun j => (Sum.inr (uk j) : L2.Key)) ∧ (∀ kv ∈ kvs, ∃ q, kv.2 = .ref q ∧ H' q = some (.lst [.str (Str.ofString "a")]) ∧ sysModules < q ∧ q ≠ D2)) ⟨[], [], W6.new hD2, rfl, .nil, rfl, fun _ h => by simp at h⟩ ?_ ?_
          · rintro i H7 hi ⟨ps, kv7, W7, lp, pr, ek, ev⟩
            have hi' : i < 10 := by omega
            walk_at "rd"
            have hat : ∀ j : Fin 11, (Str.ofString "abcdefghijk").cps.toList[j.1]? = some (97 + j.1) := by decide +kernel
            refine ⟨_, _, 97 + i, rfl, rfl, size_le (by decide +kernel), ?_, ?_⟩
            · rw [show (0 : Int) + (i : Int) = ((i : Nat) : Int) by omega]
              exact atI_nat (hat ⟨i, by omega⟩)
            walk_at "rd"
            have lu : (Str.ofString "u").length = 1 := by decide +kernel
            refine ⟨size_le (by rw [lu]; show 1 + 1 ≤ _; omega), ?_⟩
            walk_at "rd"
            rename_i p8 H8 np8 sp8 kp8 hp8 W8 t9 H9 n9 k9 h9 W9
            have hD9 := W9.get 2 rfl
            have k79 := kp8.trans k9
            have hp9 := k9 _ _ hp8 (by simp)
            have far : ∀ {p : Addr} {o : HO} {o2 : HO}, H9 p = some o → p ≠ D2 → upd H9 D2 o2 p = some o := fun h n => by rw [upd_ne n]; exact h
            have nt : ∀ {p : Addr} {ys : List V}, H9 p = some (.tup ys) → p ≠ D2 := fun h => ne_of h hD9 (fun z => by cases z)
            have np8D : p8 ≠ D2 := fun z => by rw [z, W7.get 0 rfl] at np8; cases np8
            refine ⟨_, hD9, size_ok (by rw [List.length_map]; omega), ps ++ [t9], kv7 ++ [(Sum.inr (uk i), .ref p8)], ?_, by rw [List.length_append, lp]; rfl, ?_, ?_, fun kv hk => ?_⟩
            · rw [List.map_append]
              exact (W9.sel (L' := [(D2, .lst (ps.map V.ref)), (b, bagO x6 y6 z6)]) (.cons _ (.cons _ (.refl _)))).set (o' := .lst (ps.map V.ref ++ [V.ref t9])) 0 rfl
            · exact pair_snoc (Paired.mapP pr fun _ _ r => far (k79 _ _ r (by simp)) (nt (k79 _ _ r (by simp)))) (far h9 (nt h9))
            · rw [List.map_append, ek, List.range_succ, List.map_append]
              rfl
            · rcases List.mem_append.mp hk with hk | hk
              · obtain ⟨q7, e1, e2, e3, e4⟩ := ev kv hk
                exact ⟨q7, e1, far (k79 _ _ e2 (by simp)) e4, e3, e4⟩
              · rw [List.mem_singleton.mp hk]
                exact ⟨p8, rfl, far hp9 np8D, sp8, np8D⟩
          · rintro H7 ⟨ps, kv7, W7, lp, pr, ek, ev⟩
            have nd7 : (kv7.map (·.1)).Nodup := by
              rw [ek]
              exact (by decide +kernel : ∀ n : Fin 11, ((List.range n.1).map fun j => (Sum.inr (uk j) : L2.Key)).Nodup) ⟨(7 + d6).toNat, by omega⟩
            have mk7 : mergeK [] kv7 = kv7 := merge_ndK kv7 [] (by rw [List.nil_append]; exact nd7)
            refine ⟨D2, ps, kv7, rfl, W7.sq 0 rfl, Paired.mapP pr fun _ _ r => .inl (.inl r), fun l8 n8 => ?_⟩
            rw [mk7]
            have l7 : kv7.length = ps.length := (Paired.length pr).symm
            have hb7 := W7.get 1 rfl
            have k8 := keep_new (o := .dK kv7) n8
            have W8 := (W7.new (o := .dK kv7) n8).sel (L' := [(l8, .dK kv7), (b, bagO x6 y6 z6)]) (.cons₂ _ (.cons _ (.refl _)))
            have S8 : SS H5 (upd H7 l8 (.dK kv7)) b l8 kv7 x6 y6 z6 := by
              refine ⟨frAt W8 0 1 rfl rfl (by decide), W8.keep, W8.get 1 rfl, ⟨upd_same, nd7, fun kv hk => ?_, fun kv hk => ?_, by omega⟩, fun z => ?_, fun kv hk => ?_⟩
              · have : kv.1 ∈ kv7.map (·.1) := List.mem_map_of_mem hk
                rw [ek] at this
                obtain ⟨j, hj, e⟩ := List.mem_map.mp this
                rw [← e]
                have := List.mem_range.mp hj
                exact uk_ok (by omega)
              · obtain ⟨q7, e1, e2, e3, e4⟩ := ev kv hk
                rw [e1]
                exact ⟨_, gw_lst (es := [Str.ofString "a"].map .str) (k8 _ _ e2 (by simp)) e3 (.cons (od_str (s := Str.ofString "a") (by decide +kernel)) .nil) (by decide)⟩
              · rw [z] at l7
                simp at l7
                omega
              · obtain ⟨q7, e1, e2, e3, e4⟩ := ev kv hk
                rw [e1]
                exact ⟨fun z => (by rw [V.ref.inj z, hb7] at e2; cases e2), fun z => (by rw [V.ref.inj z, n8] at e2; cases e2)⟩
            generalize upd H7 l8 (.dK kv7) = H8 at W8 S8 ⊢
            clear W7 n8 k8
            walk_at "rd"
            rename_i p1 I1 n1 s1 j1 e1 V1 p2 I2 n2 j2 e2 V2 p3 I3 n3 s3 j3 e3 V3 p4 I4 n4 j4 e4 V4 p5 I5 n5 s5 j5 e5 V5 p6 I6 n6 s6 j6 e6 V6
            have S6 := S8.go (Keep.to1 (j1.trans (j2.trans (j3.trans (j4.trans (j5.trans j6)))))) (V6.get 7 rfl)
            clear V1 V2 V3 V4 V5
            walk_at "take"
            rename_i d10 x10 y10 z10 H10 d100 d101 ok10 kp10 hb10 W10
            have S10 := S6.go kp10 hb10
            have PG : Paired (fun (v : V) (_ : PyData) => Spo H10 v) [V.non, V.int 7, V.ref p1, V.ref p2, V.str (Str.ofString "ann"), V.ref p5, V.ref l8] [.none, .none, .none, .none, .none, .none, .none] :=
              .cons (.odd .none .non (by decide +kernel) rfl) (.cons (.odd (.int 7) (.int 7) (by decide +kernel) rfl) (.cons (.odd (.list []) (.lst (W10.get 5 rfl) s1 .nil) (by decide +kernel) rfl)
                (.cons (.dct p2 [] rfl ⟨W10.get 4 rfl, List.nodup_nil, fun _ h => (by cases h), fun _ h => (by cases h), by decide⟩) (.cons (.odd (.str (Str.ofString "ann")) (.str _) (by decide +kernel) rfl)
                (.cons (.odd (.list [.tuple [.str (Str.ofString "ann"), .list [.str (Str.ofString "a")]]]) (.lst (W10.get 1 rfl) s5 (.cons (.tup (W10.get 2 rfl) (.cons (.str _) (.cons (.lst (W10.get 3 rfl) s3 (.cons (.str _) .nil)) .nil))) .nil)) (by decide +kernel) rfl)
                (.cons (.dct l8 kv7 rfl S10.F) .nil))))))
            obtain ⟨v, _, hat, sp⟩ := pick PG d100 d101
            refine ⟨p6, _, _, v, rfl, rfl, W10.sq 0 rfl, hat, ?_⟩
            exact q v H10 sp (kp5.trans S10.kp)
        · walk_at "rd"
          exact q _ _ (.dct l1 kvs rfl S.F) S.kp
end
end K24
namespace K24
open PySem PySem.Spec PyProof.Rows L2 FR TL
open C8 (pss_cut pe_gc)
open StX (pe_callS2 pa_star)
theorem sB_all {e : PyData} (h : sB e = true) : e.showable = true ∧ e.depth ≤ 10 ∧ e.leavesShort 40 = true ∧ e.weight ≤ 23000 := by
  unfold sB at h
  simp only [Bool.and_eq_true, decide_eq_true_eq] at h
  exact ⟨h.1.1.1, h.1.1.2, h.1.2, h.2⟩
theorem sB_of {e : PyData} (a : e.showable = true) (b : e.depth ≤ 10) (c : e.leavesShort 40 = true) (d : e.weight ≤ 23000) : sB e = true := by
  unfold sB
  rw [a, c, decide_eq_true b, decide_eq_true d]
  rfl
theorem sB_vB {e : PyData} (h : vB e = true) : sB e = true := by
  obtain ⟨a, b, c, d⟩ := vB_all h
  exact sB_of a (by omega) c (by omega)
theorem ods_dq {H : Hp} : ∀ {vs : List V} {es : List PyData}, Ods H vs es → DqAll H vs es
  | [], [], .nil => .nil
  | _ :: _, _ :: _, .cons h t => .cons h.o.dq (ods_dq t)
theorem GV.dq {H : Hp} {v : V} {e : PyData} (h : GV H v e) : Dq H v e := by
  cases h with
  | lst h s o _ => exact .lst h s (ods_dq o)
  | tup h => exact .tup h .nil
  | non => exact .non
  | str s => exact .str s
  | int i => exact .int i
  | dct h d => exact .dct h d
theorem fd_dq {H : Hp} : ∀ {kvs : List (L2.Key × V)}, (∀ kv ∈ kvs, keyOk kv.1 = true) → (∀ kv ∈ kvs, ∃ e, GW H kv.2 e) → ∃ ds, DqKv H kvs ds ∧ PyData.showableKv ds = true ∧ PyData.depthKv ds ≤ 2 ∧ PyData.leavesShortKv 40 ds = true ∧ PyData.weightKv ds ≤ 2202 * kvs.length
  | [], _, _ => ⟨[], .nil, rfl, Nat.zero_le _, rfl, Nat.zero_le _⟩
  | kv :: r, hk, hg => by
    obtain ⟨ds, i1, i2, i3, i4, i5⟩ := fd_dq (fun x hx => hk x (List.mem_cons_of_mem _ hx)) (fun x hx => hg x (List.mem_cons_of_mem _ hx))
    obtain ⟨e, g⟩ := hg kv List.mem_cons_self
    obtain ⟨a1, a2, a3, a4⟩ := vB_all g.b
    have hk0 := hk kv List.mem_cons_self
    unfold keyOk at hk0
    rw [Bool.and_eq_true] at hk0
    obtain ⟨b1, b2, b3, b4, _⟩ := okB_all hk0.1
    refine ⟨(kD kv.1, e) :: ds, .cons g.g.dq i1, ?_, ?_, ?_, ?_⟩
    · simp only [PyData.showableKv, a1, b1, i2, Bool.and_self]
    · simp only [PyData.depthKv]; omega
    · simp only [PyData.leavesShortKv, a3, b3, i4, Bool.and_self]
    · simp only [PyData.weightKv, List.length_cons]; omega
theorem FD.dq {H : Hp} {a : Addr} {kvs : List (L2.Key × V)} (h : FD H a kvs) : ∃ e, Dq H (.ref a) e ∧ sB e = true := by
  obtain ⟨ds, i1, i2, i3, i4, i5⟩ := fd_dq h.ok h.gw
  have l := h.l
  refine ⟨.dict ds, .dct h.hd i1, sB_of (by simp only [PyData.showable, i2]) (by simp only [PyData.depth]; omega) (by simp only [PyData.leavesShort, i4]) (by simp only [PyData.weight]; omega)⟩
theorem Spo.dq {H : Hp} {v : V} (h : Spo H v) : ∃ e, Dq H v e ∧ sB e = true := by
  cases h with
  | odd e d s _ => exact ⟨e, d, s⟩
  | dct a kvs ev f => subst ev; exact f.dq
theorem dq_ty {K : PySem.W.Frag} {H : Hp} {v : V} {e : PyData} (h : Dq H v e) : TyX K H v (.type (tyN e)) := by
  cases h with
  | non => exact .base .non
  | bl b => exact .base (.bl b)
  | int i => exact .base (.int i)
  | str s => exact .base (.str s)
  | lst a _ _ => exact .base (.lst a)
  | tup a _ => exact .base (.tup a)
  | dct a _ => exact .base (.dK a)
theorem tyx_keep {K : PySem.W.Frag} {H H' : Hp} {v : V} {t : Value} (k : Keep [] H H') (h : TyX K H v t) : TyX K H' v t := by
  have f : ∀ {a o}, H a = some o → H' a = some o := fun e => k _ _ e (by simp)
  cases h with
  | base h =>
    cases h with
    | non => exact .base .non
    | bl b => exact .base (.bl b)
    | int b => exact .base (.int b)
    | str b => exact .base (.str b)
    | flt b => exact .base (.flt b)
    | lst e => exact .base (.lst (f e))
    | frz e => exact .base (.frz (f e))
    | tup e => exact .base (.tup (f e))
    | dK e => exact .base (.dK (f e))
    | dT e => exact .base (.dT (f e))
    | ins e a b c d g => exact .base (.ins (f e) a b c d g)
  | byt b => exact .byt b
  | set e => exact .set (f e)
  | kList e c => exact .kList e c
  | kTuple e c => exact .kTuple e c
  | kDict e c => exact .kDict e c
  | fTuple e => exact .fTuple (f e)
  | fDict e => exact .fDict (f e)
theorem kit_dict (e : PyData) : kitB (tyN e) "dict" = some (isDc e) := by
  cases e
  case none => exact (by decide +kernel : kitB "NoneType" "dict" = some false)
  case bool => exact (by decide +kernel : kitB "bool" "dict" = some false)
  case int => exact (by decide +kernel : kitB "int" "dict" = some false)
  case str => exact (by decide +kernel : kitB "str" "dict" = some false)
  case list => exact (by decide +kernel : kitB "list" "dict" = some false)
  case tuple => exact (by decide +kernel : kitB "tuple" "dict" = some false)
  case dict => exact (by decide +kernel : kitB "dict" "dict" = some true)
theorem txs_of : ∀ {l : List L2.Key}, (l.all fun k => usD (kD k)) = true → ∃ ks : List Str, l = ks.map Sum.inr ∧ ∀ u ∈ ks, Us u
  | [], _ => ⟨[], rfl, fun _ h => by cases h⟩
  | k :: r, h => by
    rw [List.all_cons, Bool.and_eq_true] at h
    obtain ⟨ks, e, us⟩ := txs_of h.2
    cases k with
    | inl i => exact absurd h.1 Bool.false_ne_true
    | inr s =>
      have z : (nm s && decide (s ≠ Str.ofString "root")) = true := h.1
      rw [Bool.and_eq_true, decide_eq_true_eq] at z
      exact ⟨s :: ks, by rw [e]; rfl, fun u hu => (List.mem_cons.mp hu).elim (fun e => by rw [e]; exact ⟨Nm_of z.1, z.2⟩) (us u)⟩
theorem val_mem {kvs : List (L2.Key × V)} {k : L2.Key} (h : k ∈ kvs.map (·.1)) : ∃ kv ∈ kvs, valV kvs k = some kv.2 := by
  induction kvs with
  | nil => cases h
  | cons x r ih =>
    by_cases c : x.1 = k
    · exact ⟨x, List.mem_cons_self, valV_pos c⟩
    · obtain ⟨kv, h1, h2⟩ := ih ((List.mem_cons.mp h).resolve_left fun z => c z.symm)
      exact ⟨kv, List.mem_cons_of_mem _ h1, by rw [valV_neg c]; exact h2⟩
theorem srt_mem {xs : List Str} {u : Str} (h : u ∈ srt xs) : u ∈ xs := by
  unfold srt at h
  split at h
  · rename_i c
    exact (Classical.choose_spec c).1.mem_iff.mp h
  · cases h
theorem gOf_20 {H : Hp} {v : V} {e : PyData} (h : GV H v e) : (gOf e).length ≤ 20 := by
  cases h with
  | lst h s o l => exact Nat.le_trans (List.length_filterMap_le _ _) l
  | _ => exact Nat.zero_le _
theorem flat_20 {H : Hp} {zs : List Str} {val : Str → V} {g : Str → PyData} (hg : ∀ z ∈ zs, GV H (val z) (g z)) : (flatM (mOf zs g)).length ≤ 20 * zs.length := by
  induction zs with
  | nil => exact Nat.le_refl _
  | cons z r ih =>
    have h1 := gOf_20 (hg z List.mem_cons_self)
    have h2 := ih (fun y hy => hg y (List.mem_cons_of_mem _ hy))
    have e : flatM (mOf (z :: r) g) = gOf (g z) ++ flatM (mOf r g) := rfl
    rw [e, List.length_append, List.length_cons]
    omega
/-- the verdict, and with what -/
theorem Spo.ver {K : PySem.W.Frag} {A : Ads} {H : Hp} {v : V} (h : Spo H v) : ∃ n b, Ver K A H v n b ∧ ∃ e, Dq H b e ∧ sB e = true := by
  cases h with
  | odd e d s nd => exact ⟨0, v, .odd _ (dq_ty d) (by rw [kit_dict, nd]), e, d, s⟩
  | dct a kvs ev f =>
    subst ev
    cases hu : usersB (kvs.map (·.1)) with
    | false => exact ⟨0, _, .whole a kvs rfl f.hd f.ok hu, f.dq⟩
    | true =>
      unfold usersB at hu
      rw [Bool.and_eq_true, Bool.and_eq_true, decide_eq_true_eq, decide_eq_true_eq] at hu
      obtain ⟨⟨l1, l6⟩, hu⟩ := hu
      obtain ⟨ks, ek, us⟩ := txs_of hu
      have lk : ks.length = (kvs.map (·.1)).length := by rw [ek, List.length_map]
      have nd := f.nd
      rw [ek] at nd
      have nd2 : ks.Nodup := (List.pairwise_map.mp nd).imp fun h z => h (by rw [z])
      have vals : ∀ u ∈ ks, ∃ vv e, valV kvs (Sum.inr u) = some vv ∧ GW H vv e := fun u hu => by
        obtain ⟨kv, h1, h2⟩ := val_mem (k := Sum.inr u) (kvs := kvs) (by rw [ek]; exact List.mem_map_of_mem hu)
        obtain ⟨e, g⟩ := f.gw kv h1
        exact ⟨_, e, h2, g⟩
      have ch : ∃ (val : Str → V) (g : Str → PyData), ∀ u ∈ ks, valV kvs (Sum.inr u) = some (val u) ∧ GW H (val u) (g u) := by
        refine ⟨fun u => open Classical in if hh : u ∈ ks then Classical.choose (vals u hh) else .non, fun u => open Classical in if hh : u ∈ ks then Classical.choose (Classical.choose_spec (vals u hh)) else .none, fun u hu => ?_⟩
        simp only [dif_pos hu]
        exact Classical.choose_spec (Classical.choose_spec (vals u hu))
      obtain ⟨val, g, va⟩ := ch
      have D : Dct H a kvs ks val g := ⟨f.hd, ek, f.ok, nd2, us, by omega, by omega, fun u hu => ⟨(va u hu).1, (va u hu).2.g⟩⟩
      cases hf : fbad ks g with
      | some u =>
        have hu : u ∈ ks := srt_mem (List.mem_of_find?_eq_some hf)
        exact ⟨0, _, .value a kvs ks val g u rfl D hf, g u, (va u hu).2.g.dq, sB_vB (va u hu).2.b⟩
      | none =>
        by_cases c : (once [] (flatM (mOf ks g))).length ≤ 6
        · exact ⟨2, _, .good a kvs ks val g rfl D hf c, .none, .non, by decide +kernel⟩
        · refine ⟨1, _, .many a kvs ks val g rfl D hf (by omega), _, .int _, ?_⟩
          have := flat_20 (zs := ks) (g := g) fun z hz => (va z hz).2.g
          have h2 := once_len (flatM (mOf ks g)) []
          rw [List.length_nil] at h2
          exact (by decide +kernel : ∀ n : Fin 121, sB (.int (n.1 : Nat)) = true) ⟨_, by omega⟩
end K24
namespace K24
open PySem PySem.Spec PyProof.Rows L2 FR TL
open C8 (pss_cut pe_gc)
open StX (pe_callS2 pa_star)
theorem keep_sq {K : PySem.W.Frag} {H H' : Hp} {a : Addr} {xs : List V} (h : SqL K H a xs) (k : Keep [] H H') : SqL K H' a xs := by
  rcases h with (h | ⟨o, h⟩) | h
  · exact .inl (.inl (k _ _ h (by simp)))
  · exact .inl (.inr ⟨o, k _ _ h (by simp)⟩)
  · exact .inr h
theorem shown3 {d : PyData} (a : d.showable = true) (b : d.depth ≤ 50) (c : d.leavesShort 40 = true) (e : d.weight ≤ 23500) : d.showable = true ∧ d.depth ≤ 50 ∧ d.shown.length ≤ sizeLine :=
  ⟨a, b, size_le (by have h1 := PyData.shown_le 40 (by decide) d c; have h3 := Nat.mul_le_mul_left (40 + 2) e; omega)⟩
theorem rep_of {H : Hp} {v : V} {e : PyData} {Q : VK} (h : Dq H v e) (s : sB e = true) (q : Q (.str e.shown) H) : rReprS [v] H Q := by
  obtain ⟨a, b, c, d⟩ := sB_all s
  obtain ⟨x, y, z⟩ := shown3 a (by omega) c (by omega)
  cases h with
  | non => exact .inr (.inr (.inr (.inl ⟨rfl, q⟩)))
  | bl b0 => exact .inr (.inr (.inl ⟨b0, rfl, q⟩))
  | int i => exact .inr (.inl ⟨i, rfl, by simpa [PyData.showable] using a, q⟩)
  | str t => exact .inr (.inr (.inr (.inr ⟨t, rfl, z, q⟩)))
  | lst h1 h2 h3 => exact .inl ⟨_, _, rfl, .lst h1 h2 h3, x, y, z, q⟩
  | tup h1 h3 => exact .inl ⟨_, _, rfl, .tup h1 h3, x, y, z, q⟩
  | dct h1 h3 => exact .inl ⟨_, _, rfl, .dct h1 h3, x, y, z, q⟩
def tE (n : Nat) (e : PyData) : List PyData := if n = 0 then [.str (Str.ofString "people"), e, .bool true] else if n = 1 then [.str (Str.ofString "many"), e, .bool true] else [.str (Str.ofString "good"), .bool true]
theorem tL_cat (n : Nat) (b : V) : dL n b ++ [.bl true] = tL n b := by
  unfold dL tL
  split
  · rfl
  · split <;> rfl
theorem rep_t {H : Hp} {b : V} {e : PyData} {n : Nat} {p : Addr} {Q : VK} (h : Dq H b e) (s : sB e = true) (hp : H p = some (.lst (tL n b))) (sp : sysModules < p) (q : Q (.str (PyData.list (tE n e)).shown) H) : rReprS [.ref p] H Q := by
  obtain ⟨a, b', c, d⟩ := sB_all s
  have dq : DqAll H (tL n b) (tE n e) := by
    unfold tL tE
    split
    · exact .cons (.str _) (.cons h (.cons (.bl true) .nil))
    · split
      · exact .cons (.str _) (.cons h (.cons (.bl true) .nil))
      · exact .cons (.str _) (.cons (.bl true) .nil)
  have w0 : (PyData.str (Str.ofString "people")).weight ≤ 10 ∧ (PyData.str (Str.ofString "many")).weight ≤ 10 ∧ (PyData.str (Str.ofString "good")).weight ≤ 10 := by decide +kernel
  have w1 : (PyData.str (Str.ofString "people")).leavesShort 40 = true ∧ (PyData.str (Str.ofString "many")).leavesShort 40 = true ∧ (PyData.str (Str.ofString "good")).leavesShort 40 = true := by decide +kernel
  have al : PyData.showableAll (tE n e) = true ∧ PyData.depthAll (tE n e) ≤ 10 ∧ PyData.leavesShortAll 40 (tE n e) = true ∧ PyData.weightAll (tE n e) ≤ 23100 := by
    unfold tE
    split
    · refine ⟨by simp only [PyData.showableAll, PyData.showable, a, Bool.and_self], ?_, ?_, ?_⟩
      · simp only [PyData.depthAll, PyData.depth]; omega
      · simp only [PyData.leavesShortAll, w1.1, c, Bool.and_self, Bool.true_and, Bool.and_true]; rfl
      · have := w0.1; simp only [PyData.weightAll, PyData.weight] at *; omega
    · split
      · refine ⟨by simp only [PyData.showableAll, PyData.showable, a, Bool.and_self], ?_, ?_, ?_⟩
        · simp only [PyData.depthAll, PyData.depth]; omega
        · simp only [PyData.leavesShortAll, w1.2.1, c, Bool.and_self, Bool.true_and, Bool.and_true]; rfl
        · have := w0.2.1; simp only [PyData.weightAll, PyData.weight] at *; omega
      · refine ⟨by simp only [PyData.showableAll, PyData.showable, Bool.and_self], ?_, ?_, ?_⟩
        · simp only [PyData.depthAll, PyData.depth]; omega
        · simp only [PyData.leavesShortAll, w1.2.2, Bool.and_self, Bool.true_and, Bool.and_true]; rfl
        · have := w0.2.2; simp only [PyData.weightAll, PyData.weight] at *; omega
  obtain ⟨x, y, z⟩ := shown3 (d := .list (tE n e)) (by simp only [PyData.showable, al.1]) (by simp only [PyData.depth]; omega) (by simp only [PyData.leavesShort, al.2.2.1]) (by simp only [PyData.weight]; omega)
  exact .inl ⟨p, _, rfl, .lst hp sp dq, x, y, z, q⟩
theorem once_same {xs : List Str} (nd : xs.Nodup) : (once [] xs).length = xs.length :=
  ((List.perm_ext_iff_of_nodup (once_nodup xs [] .nil) nd).mpr fun x => by rw [once_mem]; simp).length_eq
theorem gtx_strs (xs : List Str) : gtx (xs.map .str) = xs := by
  induction xs with
  | nil => rfl
  | cons a r ih => exact congrArg (a :: ·) ih
theorem RS.go {H H' : Hp} {b : Addr} {x y z : Int} {v : V} {xs : List Str} (h : RS H v xs) (hb : H b = some (bagO x y z)) (k : Keep [b] H H') : RS H' v xs := by
  obtain ⟨p, rfl, h, sp⟩ := h
  exact ⟨p, rfl, k _ _ h (by simpa using ne_of h hb (Ne.symm bag_ne)), sp⟩
theorem Ver.keep {K : PySem.W.Frag} {A : Ads} {H H' : Hp} {v b : V} {n : Nat} (h : Ver K A H v n b) (k : Keep [] H H') : Ver K A H' v n b := by
  cases h with
  | odd t ty kt => exact .odd t (tyx_keep k ty) kt
  | whole a kvs ev ha hk hu => exact .whole a kvs ev (k _ _ ha (by simp)) hk hu
  | value a kvs ks val g u ev D fb => exact .value a kvs ks val g u ev (D.keep k) fb
  | many a kvs ks val g ev D fb lt => exact .many a kvs ks val g ev (D.keep k) fb lt
  | good a kvs ks val g ev D fb le => exact .good a kvs ks val g ev (D.keep k) fb le
theorem Odd.nint {K : PySem.W.Frag} {H : Hp} {v : V} {e : PyData} (h : Odd H v e) {ws : List Str} (hw : SeqAt.shaped (.list (ws.map .str)) = true) (hn : ∀ s, v = .str s → s ∉ ws) : NInT K H v ws false := by
  obtain ⟨hs, hB⟩ := id h
  rcases h.dp (K := K) with ⟨hd, nd⟩ | ⟨a, rfl, ha⟩
  · refine .inl ⟨e, hd, sh_of hB nd, hw, ?_⟩
    rw [List.any_map, List.any_eq_false]
    intro b hb
    show ¬ PyData.eqv (.str b) e = true
    cases hs with
    | str s => rw [str_eqv, decide_eq_true_eq]; exact fun z => hn s rfl (by rw [← z]; exact hb)
    | dc0 _ => exact absurd rfl (nd _)
    | _ => exact fun z => by cases z
  · exact .inr ⟨a, _, rfl, ha, rfl⟩
theorem Odd.nou {K : PySem.W.Frag} {H : Hp} {v : V} {e : PyData} (h : Odd H v e) {M : Mp} (hn : ∀ s, v = .str s → s ∉ M.map (·.1)) : NoU K H v M := by
  have ty := h.ty (K := K)
  have hk := kit_str e
  obtain ⟨hs, hB⟩ := h
  cases hs with
  | str s => exact .inl ⟨s, rfl, hn s rfl⟩
  | _ => exact .inr ⟨_, ty, hk⟩
theorem sh_us {u : Str} (h : Us u) : SeqAt.shaped (.str u) = true ∧ okB (.str u) = true := by
  have k := key_us h
  unfold keyOk at k
  rw [Bool.and_eq_true] at k
  exact ⟨sh_of k.1 (fun _ z => by cases z), k.1⟩
theorem Odd.repT {H : Hp} {v : V} {e : PyData} {s : Str} {p : Addr} {Q : VK} (h : Odd H v e) (hs : okB (.str s) = true) (hp : H p = some (.lst [.str s, v, .bl true])) (sp : sysModules < p) (q : Q (.str (PyData.list [.str s, e, .bool true]).shown) H) : rReprS [.ref p] H Q := by
  obtain ⟨a, b, c, d⟩ := h.tri hs hp sp
  exact .inl ⟨p, _, rfl, a, b, c, d, q⟩
theorem wd_ok (way : Int) : okB (.str (wdN way)) = true := by
  unfold wdN
  split <;> decide +kernel
theorem wd_at {way : Int} (a : 0 ≤ way) (b : way ≤ 2) : atI [V.str (Str.ofString "user"), V.str (Str.ofString "user"), V.str (Str.ofString "group")] way = some (.str (wdN way)) := by
  have : way = 0 ∨ way = 1 ∨ way = 2 := by omega
  rcases this with rfl | rfl | rfl <;> rfl
theorem sub_len {xs ys : List Str} (nd : xs.Nodup) (h : ∀ x ∈ xs, x ∈ ys) : xs.length ≤ ys.length := by
  induction xs generalizing ys with
  | nil => exact Nat.zero_le _
  | cons a r ih =>
    rw [List.nodup_cons] at nd
    have ha := h a List.mem_cons_self
    have h2 : ∀ x ∈ r, x ∈ ys.erase a := fun x hx => (List.mem_erase_of_ne fun e => nd.1 (by rw [← e]; exact hx)).mpr (h x (List.mem_cons_of_mem _ hx))
    have := ih nd.2 h2
    rw [List.length_erase_of_mem ha] at this
    have := List.length_pos_of_mem ha
    rw [List.length_cons]
    omega
/-- good members -/
theorem good_dct {H : Hp} {a : Addr} {kvs : List (L2.Key × V)} {m : Mp} (ha : H a = some (.dK kvs)) (dm : DM (RS H) kvs m) (nd : (m.map (·.1)).Nodup) (us : Uss (m.map (·.1))) (l1 : 1 ≤ m.length) (l6 : m.length ≤ 6) (gs : ∀ e ∈ m, GsOk e.2) :
    ∃ val g, Dct H a kvs (m.map (·.1)) val g ∧ fbad (m.map (·.1)) g = none ∧ (once [] (flatM (mOf (m.map (·.1)) g))).length ≤ 6 ∧ ∀ u ∈ m.map (·.1), ∀ x ∈ gOf (g u), x ∈ glN := by
  have gm : ∀ u ∈ m.map (·.1), GsOk (mget m u) := fun u hu => by
    obtain ⟨e, he, rfl⟩ := List.mem_map.mp hu
    rw [mget_mem nd he]
    exact gs e he
  refine ⟨fun u => (valV kvs (Sum.inr u)).getD .non, fun u => .list ((mget m u).map .str), ⟨ha, dm.keys, fun kv hk => ?_, nd, us, by rw [List.length_map]; exact l1, by rw [List.length_map]; exact l6, fun u hu => ?_⟩, ?_, ?_, fun u hu x hx => (gm u hu).su x (by have hx : x ∈ gtx ((mget m u).map .str) := hx; rw [gtx_strs] at hx; exact hx)⟩
  · have h1 : kv.1 ∈ kvs.map (·.1) := List.mem_map_of_mem hk
    rw [dm.keys] at h1
    obtain ⟨u, hu, e⟩ := List.mem_map.mp h1
    rw [← e]
    exact key_us (us u hu)
  · obtain ⟨v, e1, p, rfl, e2, sp⟩ := dm.val hu
    rw [e1]
    exact ⟨rfl, .lst e2 sp (od_gl (gm u hu).su) (by rw [List.length_map]; have := (gm u hu).l6; omega)⟩
  · unfold fbad
    rw [List.find?_eq_none]
    intro u hu
    have g := gm u (srt_mem hu)
    have l1 := g.l1
    have l6 := g.l6
    have : grB (.list ((mget m u).map .str)) = true := by
      show (decide (1 ≤ ((mget m u).map PyData.str).length) && decide (((mget m u).map PyData.str).length ≤ 6) && (((mget m u).map PyData.str).all usD && decide (((mget m u).map PyData.str).length = (once [] (gtx ((mget m u).map PyData.str))).length))) = true
      rw [List.length_map, gtx_strs, once_same g.nd]
      simp only [decide_eq_true l1, decide_eq_true l6, Bool.true_and, decide_true, Bool.and_true]
      rw [List.all_eq_true]
      intro x hx
      obtain ⟨s, hs, rfl⟩ := List.mem_map.mp hx
      have z := us_glN s (g.su s hs)
      show (nm s && decide (s ≠ Str.ofString "root")) = true
      rw [nm_of z.1, decide_eq_true z.2]
      rfl
    simp [this]
  · have sub : ∀ x ∈ once [] (flatM (mOf (m.map (·.1)) fun u => .list ((mget m u).map .str))), x ∈ glN := fun x hx => by
      rw [once_mem] at hx
      have hx : x ∈ flatM (mOf (m.map (·.1)) fun u => .list ((mget m u).map .str)) := by simpa using hx
      obtain ⟨e, he, hx⟩ := mem_flatM.mp hx
      obtain ⟨u, hu, rfl⟩ := List.mem_map.mp he
      have hx : x ∈ gtx ((mget m u).map .str) := hx
      rw [gtx_strs] at hx
      exact (gm u hu).su x hx
    exact sub_len (once_nodup _ [] .nil) sub
section
variable {P : Program} {w : World} {K : PySem.W.Frag} {mg : Str → Option Value} {base : Heap} {A : Ads}
set_option pp.maxSteps 300
def spLaw (K : PySem.W.Frag) : Sp := fun vs H Q _ => ∃ (a : Addr) (ns : List Int), vs = [.ref a] ∧ SqL K H a (ns.map V.int) ∧ ns.length ≤ 63 ∧ ∀ H', Q (.bl true) H'
theorem cnt_in (L : Int) : (0 : Int) ≤ (if (if L < 8 then L else 8) > 3 then (if L < 8 then L else 8) else 3) ∧ (if (if L < 8 then L else 8) > 3 then (if L < 8 then L else 8) else 3) ≤ 8 := by
  split <;> split <;> constructor <;> omega
theorem bd_People___init___1 (T : Txt K mg A) : Vals [] [] ∧ Binds K A.d_People___init__ ["self", "members"] [] := ⟨.nil, T.B_People___init__⟩
theorem ok_law (T : Txt K mg A) : FnG P w K mg base CX0 9 A.f_law (spLaw K) := by
  refine okG0 T.F_law sc_law T.B_law (fun vs H Q E h => ?_) (fun cdv A_ outer s H vs Q E hgd hr h => ?_)
  · obtain ⟨a, ns, rfl, _⟩ := h
    rfl
  · obtain ⟨sa, ns, rfl, hS, hlen, q⟩ := h
    refine ⟨_, (pss_cons (ps_for PassesOwn.never rfl (pi_range1 (by rfl) T.b_range (pa_cons (pe_callB (call_max2 rfl) (by rfl) T.b_max (by decide +kernel) (pa_cons pe_int (pa_cons (pe_callB (call_min2 rfl) (by rfl) T.b_min (by decide +kernel) (pa_cons pe_int (pa_cons (pe_callB call_len_seq (by rfl) T.b_len PySem.boot_len (pa_cons (pv 0) pa_nil)) pa_nil))) pa_nil))) pa_nil)) (pg_name (i := 1) sc_law.nd rfl (.inl rfl)) (pss_cons (ps_set (i := 2) sc_law.nd rfl (.inl rfl) (pe_call (ok_bag T) (hr.mono (by decide)) (by rfl) T.g_bag T.F_bag.kp T.B_bag .nil pass0 (pa_cons (pe_call (ok_cell T) (hr.mono (by decide)) (by rfl) T.g_cell T.F_cell.kp T.B_cell .nil pass0 (pa_cons (pv 0) (pa_cons (pv 1) pa_nil))) pa_nil)))
  (pss_cons (ps_set (i := 3) sc_law.nd rfl (.inl rfl) (pe_call (ok_good T) (hr.mono (by decide)) (by rfl) T.g_good T.F_good.kp T.B_good .nil pass0 (pa_cons (pv 2) pa_nil)))
  (pss_cons (ps_if (pt_cmpR (op_neD hr.units) (pe_call (ok_tried T) (hr.mono (by decide)) (by rfl) T.g_tried T.F_tried.kp T.B_tried .nil pass0 (pa_cons (pv 3) pa_nil)) (pe_lstS (pa_cons pe_str (pa_cons pe_bl pa_nil))) (nomark _)) (pss_one (ps_ret pe_bl)) pss_nil)
  (pss_cons (ps_set (i := 4) sc_law.nd rfl (.inl rfl) (pe_call (ok_spoilt T) (hr.mono (by decide)) (by rfl) T.g_spoilt T.F_spoilt.kp T.B_spoilt .nil pass0 (pa_cons (pv 2) (pa_cons (pv 3) pa_nil))))
  (pss_cons (ps_par (i := 5) (j := 6) (by rfl) sc_law.nd rfl rfl (by decide) rfl rfl (pa_cons (pe_callB (call_reprX hgd (u65 hr)) (by rfl) T.b_repr (by decide +kernel) (pa_cons (pv 4) pa_nil)) (pa_cons (pe_call (ok_due T) (hr.mono (by decide)) (by rfl) T.g_due T.F_due.kp T.B_due .nil pass0 (pa_cons (pv 4) pa_nil)) pa_nil)) (by rfl))
  (pss_cons (ps_if (PW.pt (pw_or (pt_cmpR op_ne (pe_callB (call_reprX hgd (u65 hr)) (by rfl) T.b_repr (by decide +kernel) (pa_cons (pe_call (ok_tried T) (hr.mono (by decide)) (by rfl) T.g_tried T.F_tried.kp T.B_tried .nil pass0 (pa_cons (pv 4) pa_nil)) pa_nil)) (pe_callB (call_reprX hgd (u65 hr)) (by rfl) T.b_repr (by decide +kernel) (pa_cons (pe_op op_catS (pv 6) (pe_lstS (pa_cons pe_bl pa_nil))) pa_nil)) (nomark _)) (pw_or1 (pt_cmpR op_ne (pe_callB (call_reprX hgd (u65 hr)) (by rfl) T.b_repr (by decide +kernel) (pa_cons (pv 4) pa_nil)) (pv 5) (nomark _))))) (pss_one (ps_ret pe_bl)) pss_nil)
  (pss_cons (ps_set (i := 7) sc_law.nd rfl (.inl rfl) (pe_make T.mk_People (ok_People___init__ T) (hr.mono (by decide)) (by rfl) T.gC_People (bd_People___init___1 T).2 (bd_People___init___1 T).1 px0 (pa_cons (pv 3) pa_nil)))
  (pss_cons (ps_for PassesOwn.never rfl (pi_list (pe_lstS (pa_cons pe_str (pa_cons pe_str (pa_cons pe_str (pa_cons pe_non (pa_cons pe_int (pa_cons (pe_lstS pa_nil) (pa_cons (pe_tupN (pa_cons pe_str pa_nil)) (pa_cons pe_dnewN pa_nil)))))))))) (pg_name (i := 8) sc_law.nd rfl (.inl rfl)) (pss_one (ps_for PassesOwn.never rfl (pi_range1 (by rfl) T.b_range (pa_cons pe_int pa_nil)) (pg_name (i := 9) sc_law.nd rfl (.inl rfl)) (pss_one (ps_if (pt_cmpR op_ne (pe_callB (call_reprX hgd (u65 hr)) (by rfl) T.b_repr (by decide +kernel) (pa_cons (pe_call (ok_named T) (hr.mono (by decide)) (by rfl) T.g_named T.F_named.kp T.B_named .nil pass0 (pa_cons (pv 7) (pa_cons (pv 9) (pa_cons (pv 8) pa_nil)))) pa_nil)) (pe_callB (call_reprX hgd (u65 hr)) (by rfl) T.b_repr (by decide +kernel) (pa_cons (pe_lstS (pa_cons (pe_ix ix_list (pe_lstS (pa_cons pe_str (pa_cons pe_str (pa_cons pe_str pa_nil)))) (pv 9) (fun _ _ => rfl)) (pa_cons (pv 8) (pa_cons pe_bl pa_nil)))) pa_nil)) (nomark _)) (pss_one (ps_ret pe_bl)) pss_nil)))))
  (pss_cons (ps_set (i := 10) sc_law.nd rfl (.inl rfl) (pe_ix ix_list (pe_meth0 (pv 7) T.cl_People T.me_People_groups (ok_People_groups T) (hr.mono (by decide)) T.B_People_groups .nil pass0) pe_int (fun _ _ => rfl)))
  (pss_cons (ps_for PassesOwn.never rfl (pi_range1 (by rfl) T.b_range (pa_cons pe_int pa_nil)) (pg_name (i := 9) sc_law.nd rfl (.inl rfl)) (pss_one (ps_if (PW.pt (pw_and (pt_cmp (pc_dnotin (hu_of hr) (pv 10) (pv 3))) (pw_and1 (pt_cmpR (op_neD hr.units) (pe_call (ok_named T) (hr.mono (by decide)) (by rfl) T.g_named T.F_named.kp T.B_named .nil pass0 (pa_cons (pv 7) (pa_cons (pv 9) (pa_cons (pv 10) pa_nil)))) (pe_lstS (pa_cons pe_str (pa_cons (pv 10) (pa_cons pe_bl pa_nil)))) (nomark _))))) (pss_one (ps_ret pe_bl)) pss_nil)))
  (pss_cons (ps_set (i := 11) sc_law.nd rfl (.inl rfl) (pe_ix ix_list (pe_callTy (call_listD rfl) (by rfl) T.b_list (by decide +kernel) (pa_cons (pv 3) pa_nil)) pe_int (fun _ _ => rfl)))
  (pss_one (ps_if (PW.pt (pw_and (pt_cmpR op_notIn_seq (pv 11) (pe_meth0 (pv 7) T.cl_People T.me_People_groups (ok_People_groups T) (hr.mono (by decide)) T.B_People_groups .nil pass0) rfl) (pw_and1 (pt_cmpR (op_neD hr.units) (pe_call (ok_named T) (hr.mono (by decide)) (by rfl) T.g_named T.F_named.kp T.B_named .nil pass0 (pa_cons (pv 7) (pa_cons pe_int (pa_cons (pv 11) pa_nil)))) (pe_lstS (pa_cons pe_str (pa_cons (pv 11) (pa_cons pe_bl pa_nil)))) (nomark _))))) (pss_one (ps_ret pe_bl)) pss_nil))))))))))))))
  (pss_one (ps_ret pe_bl))), ?_⟩
    refine ⟨_, rfl, sa, _, rfl, .inl hS, _, _, rfl, _, _, rfl, _, rfl, ?_⟩
    obtain ⟨ca, cb⟩ := cnt_in ((ns.map V.int).length : Int)
    refine ⟨Int.le_trans (by decide) ca, Int.lt_of_le_of_lt cb (by decide), ?_⟩
    generalize (if (if ((ns.map V.int).length : Int) < 8 then ((ns.map V.int).length : Int) else 8) > 3 then (if ((ns.map V.int).length : Int) < 8 then ((ns.map V.int).length : Int) else 8) else 3) = cnt at ca cb ⊢
    refine for_rg (fun i σ H' => (∃ y1 y2 y3 y4 y5 y6 y7 y8 y9 y10 y11, σ = [some (.ref sa), y1, y2, y3, y4, y5, y6, y7, y8, y9, y10, y11]) ∧ Keep [] H H') ⟨⟨none, none, none, none, none, none, none, none, none, none, none, rfl⟩, Keep.refl⟩ ?_ ?_
    · rintro i σ H1 hi ⟨⟨y1, y2, y3, y4, y5, y6, y7, y8, y9, y10, y11, rfl⟩, K1⟩
      have hi8 : i < 8 := by
        have hi : i < cnt.toNat := hi
        omega
      refine ⟨_, rfl, _, rfl, ?_⟩
      refine ⟨sa, ns, _, rfl, keep_sq hS K1, by omega, by omega, fun n => ?_⟩
      refine ⟨n, rfl, fun bx by_ bz bok => NewO.mk fun b H2 n2 k2 h2 => ?_⟩
      have K2 := K1.trans k2
      have fb : H b = none := K1.free n2
      clear K1 k2 n2
      refine ⟨_, rfl, b, 0, bx, by_, bz, rfl, h2, bok, by omega, fun a kvs m x3 y3' z3 H3 nd uns l1 l6 gs ok3 k3 hb3 fa ha dm => ?_⟩
      have us : Uss (m.map (·.1)) := fun x hx => (uns x hx).1
      have K3 : Keep [] H H3 := fun c o e _ => k3 _ _ (K2 _ _ e (by simp)) (by
        have := ne_of_none e fb
        simpa using this)
      clear K2 k3 fa h2
      obtain ⟨val, g, D, f0, c6, _⟩ := good_dct ha dm nd us l1 l6 gs
      refine ⟨_, rfl, .ref a, 2, .non, rfl, .good a kvs _ val g rfl D f0 c6, fun t h H' k => tyx_keep k h, NewS.mk fun p4 H4 n4 s4 k4 h4 => ?_⟩
      refine ⟨(show 2 ≤ sizeLine by decide), NewS.mk fun p5 H5 n5 s5 k5 h5 => ?_⟩
      have dp : ∀ {u : Addr}, H5 u = some (.lst [.str (Str.ofString "good"), .bl true]) → Dp K H5 (.ref u) (.list [.str (Str.ofString "good"), .bool true]) := fun h => .lst (.inl (.inl h)) (.cons (.str _) (.cons (.bl _) .nil))
      refine ⟨_, _, dp (k5 _ _ h4 (by simp)), dp h5, by decide +kernel, by decide +kernel, ?_⟩
      refine ⟨_, rfl, ?_⟩
      refine ifF (by decide +kernel) ?_
      have k35 := k4.trans k5
      have hb5 := k35 _ _ hb3 (by simp)
      have M5 : MD H5 a kvs m := ⟨k35 _ _ ha (by simp), dm.imp fun _ _ r => r.rl.keep k35, nd, us, l1, l6, gs⟩
      have D5 := D.keep k35
      have K5 := K3.trans k35
      clear dp h4 h5 k4 k5 n4 n5 s4 s5
      refine ⟨_, rfl, _, rfl, b, a, 0 + 60, x3, y3', z3, kvs, m, rfl, hb5, M5, ok3, by omega, fun v H6 sp k6 => ?_⟩
      have K6 : Keep [] H H6 := fun c o e _ => k6 _ _ (K5 _ _ e (by simp)) (by
        have := ne_of_none e fb
        simpa using this)
      have k36 : Keep [b] H3 H6 := (Keep.to1 k35).trans k6
      have hb6 : b ∉ ([] : List Addr) := by simp
      have ha6 : H6 a = some (.dK kvs) := k36 _ _ ha (by simpa using ne_of ha hb3 (fun z => by cases z))
      have dm6 : DM (RS H6) kvs m := dm.imp fun _ _ r => r.go hb3 k36
      obtain ⟨val, g, D, f0, c6, ggl⟩ := good_dct ha6 dm6 nd us l1 l6 gs
      obtain ⟨nv, bv, ver, eb, dqb, seb⟩ := sp.ver (K := K) (A := A)
      obtain ⟨ev, dqv, sev⟩ := sp.dq
      refine ⟨_, rfl, rep_of dqv sev ?_⟩
      refine ⟨_, rfl, v, nv, bv, rfl, ver, NewS.mk fun p7 H7 n7 s7 k7 h7 => ?_⟩
      refine ⟨_, _, rfl, ?_⟩
      have ver7 := ver.keep k7
      have dqb7 := K24.Dq.keep k7 dqb
      refine ⟨_, rfl, v, nv, bv, rfl, ver7, fun t h H' k => tyx_keep k h, NewS.mk fun p8 H8 n8 s8 k8 h8 => ?_⟩
      have dqb8 := K24.Dq.keep k8 dqb7
      refine rep_t dqb8 seb h8 s8 ?_
      have h78 := k8 _ _ h7 (by simp)
      refine ⟨_, rfl, ?_⟩
      refine ⟨(show 1 ≤ sizeLine by decide), NewS.mk fun p9 H9 n9 s9 k9 h9 => ?_⟩
      refine ⟨p7, p9, _, _, rfl, rfl, k9 _ _ h78 (by simp), h9, size_le (by unfold dL; split <;> (try split) <;> simp), NewS.mk fun p10 H10 n10 s10 k10 h10 => ?_⟩
      rw [tL_cat] at h10
      refine rep_t (K24.Dq.keep (k9.trans k10) dqb8) seb h10 s10 ?_
      have k610 := k7.trans (k8.trans (k9.trans k10))
      refine ⟨rfl, _, rfl, ?_⟩
      refine ifF (by simp) ?_
      refine ⟨_, rfl, rep_of (K24.Dq.keep k610 dqv) sev ?_⟩
      refine ⟨_, rfl, rfl, _, rfl, ?_⟩
      refine ifF (by simp) ?_
      have D10 := D.keep k610
      have K10 := K6.trans k610
      have ha10 := k610 _ _ ha6 (by simp)
      have f0' := f0
      clear h7 h8 h9 h10 h78 n7 n8 n9 n10 dqb7 dqb8 ver7 D K6
      refine ⟨_, rfl, fun x dx hx hdx hne => ?_⟩
      have k2 : Keep [] H10 (upd (upd H10 dx (.own x)) x (.ins A.C_People dx [])) := fun b u e _ => by
        rw [upd_ne (ne_of_none e hx), upd_ne (ne_of_none e hdx)]
        exact e
      refine ⟨x, dx, .ref a, rfl, upd_same, .inr (.inr ⟨a, kvs, m.map (·.1), val, g, rfl, D10.keep k2, fun u hu => (by rw [f0] at hu; cases hu), fun _ h => absurd h (by omega), fun _ _ H11 d g' dx' ks' k11 pm Pp11 _ _ => ⟨rfl, ?_⟩⟩)⟩
      have K11 : Keep [] H H11 := fun c o e _ => k11 _ _ (k2 _ _ (K10 _ _ e (by simp)) (by simp)) (by
        have := ne_of_none (K10 _ _ e (by simp)) hx
        simpa using this)
      have ha11 : H11 a = some (.dK kvs) := k11 _ _ (k2 _ _ ha10 (by simp)) (by
        have := ne_of_none ha10 hx
        simpa using this)
      have hM : ∀ s ∈ (sm (mOf (m.map (·.1)) g)).map (·.1), s ∈ m.map (·.1) := fun s hs => by
        have h2 := (pm.map (·.1)).mem_iff.mp hs
        unfold mOf at h2
        rw [List.map_map] at h2
        obtain ⟨u, hu, e⟩ := List.mem_map.mp h2
        rw [← e]; exact hu
      have hG : ∀ s ∈ gsOf (mOf (m.map (·.1)) g), s ∈ glN := fun s hs => by
        obtain ⟨e, he, hx⟩ := (Pp11.gm s).mp hs
        have he := pm.mem_iff.mp he
        obtain ⟨u, hu, rfl⟩ := List.mem_map.mp he
        exact ggl u hu s hx
      have PM : Pp A.C_People H11 x (sm (mOf (m.map (·.1)) g)) (gsOf (mOf (m.map (·.1)) g)) := ⟨d, g', dx', ks', Pp11⟩
      clear k2 k11 hx hdx hne K10 ha10 D10 pm c6 f0 f0' D ggl k7 k8 k9 k10
      generalize sm (mOf (m.map (·.1)) g) = M at PM Pp11 hM
      generalize gsOf (mOf (m.map (·.1)) g) = gs2 at PM Pp11 hG
      have sgs : SeqAt.shaped (.list (gs2.map .str)) = true := shaped_strs fun s hs => (us_glN s (hG s hs)).1.asc
      have nU : ∀ s : Str, (nm s && decide (s ≠ Str.ofString "root")) = false ∨ s = Str.ofString "nobody" → s ∉ M.map (·.1) ∧ s ∉ gs2 := fun s h => by
        refine ⟨fun hs => ?_, fun hs => ?_⟩
        · have z := uns s (hM s hs)
          rcases h with h | h
          · rw [nm_of z.1.1, decide_eq_true z.1.2] at h; cases h
          · exact z.2 h
        · have z := us_glN s (hG s hs)
          rcases h with h | h
          · rw [nm_of z.1, decide_eq_true z.2] at h; cases h
          · rw [h] at hs
            exact absurd (hG _ hs) (by decide +kernel)
      have W11 : Ow H11 [] H11 [] := Ow.start0
      walk_at "rd"
      rename_i p12 H12 n12 s12 k12 h12 W12 p13 H13 n13 k13 h13 W13 p14 H14 n14 k14 h14 W14 p15 H15 n15 s15 k15 h15 W15
      have PO : Paired (fun v e => Odd H15 v e ∧ ∀ s, v = .str s → s ∉ M.map (·.1) ∧ s ∉ gs2) [V.str (Str.ofString "root"), V.str (Str.ofString ""), V.str (Str.ofString "nobody"), V.non, V.int 7, V.ref p12, V.ref p13, V.ref p14]
          [.str (Str.ofString "root"), .str (Str.ofString ""), .str (Str.ofString "nobody"), .none, .int 7, .list ([].map .str), .tuple ([Str.ofString "a"].map .str), .dict []] :=
        .cons ⟨⟨.str _, by decide +kernel⟩, fun s e => nU s (.inl (by rw [← V.str.inj e]; decide +kernel))⟩ (.cons ⟨⟨.str _, by decide +kernel⟩, fun s e => nU s (.inl (by rw [← V.str.inj e]; decide +kernel))⟩ (.cons ⟨⟨.str _, by decide +kernel⟩, fun s e => nU s (.inr (V.str.inj e).symm)⟩
          (.cons ⟨⟨.non, by decide +kernel⟩, fun _ e => by cases e⟩ (.cons ⟨⟨.int 7, by decide +kernel⟩, fun _ e => by cases e⟩ (.cons ⟨⟨.lst (ws := []) (W15.get 3 rfl) s12, by decide +kernel⟩, fun _ e => by cases e⟩ (.cons ⟨⟨.tup (ws := [Str.ofString "a"]) (W15.get 2 rfl), by decide +kernel⟩, fun _ e => by cases e⟩ (.cons ⟨⟨.dc0 (W15.get 1 rfl), by decide +kernel⟩, fun _ e => by cases e⟩ .nil)))))))
      have K15 : Keep [] H11 H15 := W15.keep
      have h15' := W15.get 0 rfl
      clear W12 W13 W14 W15 W11 h12 h13 h14 n12 n13 n14 n15
      refine ⟨⟨_, .inl (.inl h15')⟩, ?_⟩
      refine for_li (K := K) (a := p15) (xs := [V.str (Str.ofString "root"), V.str (Str.ofString ""), V.str (Str.ofString "nobody"), V.non, V.int 7, V.ref p12, V.ref p13, V.ref p14]) (fun pre σ H' => (∃ y8 y9, σ = [some (.ref sa), some (.int (0 + (i : Int))), some (.ref b), some (.ref a), some v, some (.str ev.shown), some (.ref p7), some (.ref x), y8, y9, y10, y11]) ∧ Keep [] H15 H') ⟨⟨_, _, rfl⟩, Keep.refl⟩ (fun pre post σ H' _ h => .inl (.inl (h.2 _ _ h15' (by simp)))) ?_ ?_
      · rintro pre vv post σ Hi ex ⟨⟨y8, y9, rfl⟩, ki⟩
        have hx : [V.str (Str.ofString "root"), V.str (Str.ofString ""), V.str (Str.ofString "nobody"), V.non, V.int 7, V.ref p12, V.ref p13, V.ref p14][pre.length]? = some vv := by rw [ex]; simp
        obtain ⟨e, _, od, hn⟩ := paired_get PO hx
        clear hx ex
        refine ⟨_, rfl, ?_⟩
        refine ⟨by decide, by decide, ?_⟩
        refine for_rg (fun j σ H' => (∃ y9, σ = [some (.ref sa), some (.int (0 + (i : Int))), some (.ref b), some (.ref a), some v, some (.str ev.shown), some (.ref p7), some (.ref x), some vv, y9, y10, y11]) ∧ Keep [] H15 H') ⟨⟨_, rfl⟩, ki⟩ ?_ ?_
        · clear ki
          rintro j σ Hj hj ⟨⟨y9, rfl⟩, kj⟩
          have hj : j < 3 := hj
          have PMj := (PM.keep K15).keep kj
          have odj := od.keep kj
          refine ⟨_, rfl, _, rfl, _, rfl, x, vv, 0 + (j : Int), rfl, by omega, by omega, ⟨fun _ => ⟨M, gs2, PMj, odj.nou fun s e => (hn s e).1⟩, fun _ => ⟨M, gs2, PMj, odj.nint sgs fun s e => (hn s e).2⟩⟩, NewS.mk fun pa Ha na sa' ka hpa => ?_⟩
          refine (odj.keep ka).repT (wd_ok _) hpa sa' ?_
          have Wa : Ow Ha [] Ha [] := Ow.start0
          walk_at "rd"
          rename_i pc Hc nc sc kc hc Wc
          refine ⟨pc, _, _, .str (wdN (0 + (j : Int))), rfl, rfl, Wc.sq 0 rfl, wd_at (by omega) (by omega), ?_⟩
          have Wc : Ow Hc [] Hc [] := Ow.start0
          walk_at "rd"
          rename_i pd Hd nd sd kd hd Wd
          have kjd := ka.trans (kc.trans kd)
          refine (odj.keep kjd).repT (wd_ok _) hd sd ?_
          refine ⟨rfl, _, rfl, ?_⟩
          refine ifF (by simp) ?_
          exact ⟨⟨_, rfl⟩, kj.trans kjd⟩
        · rintro σ Hj ⟨⟨y9, rfl⟩, kj⟩
          exact ⟨⟨_, _, rfl⟩, kj⟩
      · rintro σ H16 ⟨⟨y8, y9, rfl⟩, k16⟩
        have PM16 := (PM.keep K15).keep k16
        obtain ⟨g0, gr, eg⟩ : ∃ g0 gr, gs2 = g0 :: gr := by
          obtain ⟨d2, g3, dx2, ks2, P16⟩ := id PM16
          have l1 := P16.gd.l1
          obtain ⟨e, he⟩ : ∃ e, e ∈ M := by
            cases M with
            | nil => simp at l1
            | cons e _ => exact ⟨e, List.mem_cons_self⟩
          have l2 := (P16.gd.gs e he).2.2.1
          obtain ⟨z, hz⟩ : ∃ z, z ∈ e.2 := by
            cases hh : e.2 with
            | nil => rw [hh] at l2; simp at l2
            | cons z _ => exact ⟨z, List.mem_cons_self⟩
          have := (P16.gm z).mpr ⟨e, he, hz⟩
          cases gs2 with
          | nil => cases this
          | cons g0 gr => exact ⟨g0, gr, rfl⟩
        have ha16 : H16 a = some (.dK kvs) := k16 _ _ (K15 _ _ ha11 (by simp)) (by simp)
        have K16 : Keep [] H H16 := (K11.trans K15).trans k16
        have u0 := us_glN g0 (hG g0 (by rw [eg]; exact List.mem_cons_self))
        clear PO h15' nU PM K15 k16 K11 ha11
        refine ⟨_, rfl, ?_⟩
        obtain ⟨d2, g3, dx2, ks2, P16⟩ := id PM16
        refine ⟨x, dx2, _, rfl, P16.ob, rfl, x, M, gs2, rfl, PM16, NewO.mk fun pb Hb nb kb hb => ?_⟩
        rw [eg] at hb
        refine ⟨pb, _, 0, .str g0, rfl, rfl, .inl (.inl hb), (by show atI (V.str g0 :: gr.map V.str) ((0 : Nat) : Int) = _; exact atI_nat rfl), ?_⟩
        have PMb := PM16.keep kb
        have hab := kb _ _ ha16 (by simp)
        have Kb := K16.trans kb
        clear PM16 P16 ha16 K16 kb hb nb
        have su0 := sh_us u0
        have sh3 : ∀ (s : Str) (u : Str), SeqAt.shaped (.str s) = true → SeqAt.shaped (.str u) = true → SeqAt.shaped (.list [.str s, .str u, .bool true]) = true := fun s u h1 h2 => by
          unfold SeqAt.shaped at *
          rw [Bool.and_eq_true] at *
          refine ⟨?_, decide_eq_true (by simp only [PyData.depth, PyData.depthAll]; omega)⟩
          have c1 := h1.1
          have c2 := h2.1
          simp only [PyData.canLay0, PyData.canLayAll0, Bool.and_true] at *
          rw [c1, c2]
          rfl
        have lay : ∀ {d : PyData}, SeqAt.shaped d = true → PyData.eqv d d = true := fun {d} h => by
          unfold SeqAt.shaped at h
          rw [Bool.and_eq_true] at h
          exact PySem.SeqAt.eqv_refl d h.1
        refine ⟨_, rfl, ?_⟩
        refine ⟨by decide, by decide, ?_⟩
        refine for_rg (fun j σ H' => (∃ y9, σ = [some (.ref sa), some (.int (0 + (i : Int))), some (.ref b), some (.ref a), some v, some (.str ev.shown), some (.ref p7), some (.ref x), y8, y9, some (.str g0), y11]) ∧ Keep [] Hb H') ⟨⟨_, rfl⟩, Keep.refl⟩ ?_ ?_
        · rintro j σ Hj hj ⟨⟨y9, rfl⟩, kj⟩
          have hj : j < 2 := hj
          have PMj := PMb.keep kj
          refine ⟨_, rfl, _, rfl, a, _, rfl, .inl ⟨kvs, Sum.inr g0, .inl (kj _ _ hab (by simp)), rfl, rfl⟩, ?_⟩
          refine ⟨_, rfl, ?_⟩
          cases hv : valV kvs (Sum.inr g0) with
          | some w0 =>
            refine ifF rfl ?_
            refine ifF rfl ?_
            exact ⟨⟨_, rfl⟩, kj⟩
          | none =>
            refine ifT rfl ?_
            have ng : g0 ∉ M.map (·.1) := fun h => by
              obtain ⟨z, hz, _⟩ := dm.val (hM g0 h)
              rw [hv] at hz
              cases hz
            refine ⟨_, rfl, _, rfl, _, rfl, x, .str g0, 0 + (j : Int), rfl, by omega, by omega, ⟨fun _ => ⟨M, gs2, PMj, .inl ⟨g0, rfl, ng⟩⟩, fun z => absurd z (by omega)⟩, NewS.mk fun pa Ha na sa' ka hpa => ?_⟩
            rw [show wdN (0 + (j : Int)) = Str.ofString "user" from if_neg (by omega)] at hpa
            have Wa : Ow Ha [] Ha [] := Ow.start0
            walk_at "rd"
            rename_i pc Hc nc sc kc hc Wc
            have shd := sh3 (Str.ofString "user") g0 (by decide +kernel) su0.1
            have dp : ∀ {u : Addr}, Hc u = some (.lst [.str (Str.ofString "user"), .str g0, .bl true]) → Dp K Hc (.ref u) (.list [.str (Str.ofString "user"), .str g0, .bool true]) := fun h => .lst (.inl (.inl h)) (.cons (.str _) (.cons (.str _) (.cons (.bl _) .nil)))
            refine ⟨_, _, dp (kc _ _ hpa (by simp)), dp hc, shd, shd, ?_⟩
            refine ⟨_, rfl, ?_⟩
            refine ifF (by rw [lay shd]; rfl) ?_
            exact ⟨⟨_, rfl⟩, kj.trans (ka.trans kc)⟩
        · rintro σ Hj ⟨⟨y9, rfl⟩, kj⟩
          have PMj := PMb.keep kj
          have haj := kj _ _ hab (by simp)
          obtain ⟨u0', x0, mr, em⟩ : ∃ u x0 mr, m = (u, x0) :: mr := by
            cases m with
            | nil => simp at l1
            | cons e mr => exact ⟨e.1, e.2, mr, rfl⟩
          have ek : kvs.map (fun kv => kV kv.1) = V.str u0' :: (mr.map (·.1)).map V.str := by
            have h1 := dm.keys
            have h2 : kvs.map (fun kv => kV kv.1) = (kvs.map (·.1)).map kV := by rw [List.map_map]; rfl
            rw [h2, h1, em]
            simp only [List.map_cons, List.map_map]
            rfl
          have u0s : Us u0' := us u0' (by rw [em]; exact List.mem_cons_self)
          have su := sh_us u0s
          refine ⟨_, rfl, a, kvs, rfl, .inl haj, fun pl npl => ?_⟩
          rw [ek]
          have kl := keep_new (o := .lst (V.str u0' :: (mr.map (·.1)).map V.str)) npl
          have hpl : upd Hj pl (.lst (V.str u0' :: (mr.map (·.1)).map V.str)) pl = some (.lst (V.str u0' :: (mr.map (·.1)).map V.str)) := upd_same
          generalize upd Hj pl (.lst (V.str u0' :: (mr.map (·.1)).map V.str)) = Hl at kl hpl ⊢
          refine ⟨pl, _, 0, .str u0', rfl, rfl, .inl (.inl hpl), (by show atI (V.str u0' :: _) ((0 : Nat) : Int) = _; exact atI_nat rfl), ?_⟩
          have PMl := PMj.keep kl
          have Kl := (Kb.trans kj).trans kl
          have PMl' := PMl
          obtain ⟨d4, g4, dx4, ks4, P4⟩ := PMl'
          refine ⟨_, rfl, _, rfl, x, dx4, _, rfl, P4.ob, rfl, x, M, gs2, rfl, PMl, NewO.mk fun pq Hq nq kq hq => ?_⟩
          refine ⟨pq, _, rfl, .inl (.inl (.inl hq)), rfl, FR.flat_strs _, _, rfl, ?_⟩
          rw [if_pos rfl, in_strs]
          by_cases c : u0' ∈ gs2
          · refine ifF (by rw [decide_eq_true c]; rfl) ?_
            refine ifF rfl ?_
            exact ⟨⟨_, _, _, _, _, _, _, _, _, _, _, rfl⟩, Kl.trans kq⟩
          · refine ifT (by rw [decide_eq_false c]; rfl) ?_
            have PMq := PMl.keep kq
            have odq : Odd Hq (.str u0') (.str u0') := ⟨.str _, su.2⟩
            refine ⟨_, rfl, _, rfl, x, .str u0', 2, rfl, by omega, by omega, ⟨fun z => absurd rfl z, fun _ => ⟨M, gs2, PMq, odq.nint sgs fun s e => by rw [← V.str.inj e]; exact c⟩⟩, NewS.mk fun pa Ha na sa' ka hpa => ?_⟩
            have hpa : Ha pa = some (.lst [.str (Str.ofString "group"), .str u0', .bl true]) := hpa
            have Wa : Ow Ha [] Ha [] := Ow.start0
            walk_at "rd"
            rename_i pc Hc nc sc kc hc Wc
            have shd := sh3 (Str.ofString "group") u0' (by decide +kernel) su.1
            have dp : ∀ {u : Addr}, Hc u = some (.lst [.str (Str.ofString "group"), .str u0', .bl true]) → Dp K Hc (.ref u) (.list [.str (Str.ofString "group"), .str u0', .bool true]) := fun h => .lst (.inl (.inl h)) (.cons (.str _) (.cons (.str _) (.cons (.bl _) .nil)))
            refine ⟨_, _, dp (kc _ _ hpa (by simp)), dp hc, shd, shd, ?_⟩
            refine ⟨_, rfl, ?_⟩
            refine ifF (by rw [lay shd]; rfl) ?_
            exact ⟨⟨_, _, _, _, _, _, _, _, _, _, _, rfl⟩, Kl.trans (kq.trans (ka.trans kc))⟩
    · rintro σ H1 ⟨⟨y1, y2, y3, y4, y5, y6, y7, y8, y9, y10, y11, rfl⟩, K1⟩
      exact q H1
end
end K24
namespace K24
open PySem PySem.Spec PyProof.Rows L2 FR TL
theorem all_mk {P : Program} {w : World} {K : PySem.W.Frag} {h : Heap} {mg : Str → Option Value} {fa : Addr} (X : K.In h) (G : h.Ns mainGlobals mg) (hfa : mg "law" = some (.ref fa))
    {O0 : Addr} {cdo0 : ClassData}
    {f0 : Addr} {od0 an0 : Option Addr} {sl0 : Array (Option Value)} {oc0 kV0 dc0 pm0 cd0 ct0 : Value}
    {f1 : Addr} {od1 an1 : Option Addr} {sl1 : Array (Option Value)} {oc1 kV1 dc1 pm1 cd1 ct1 : Value}
    {f2 : Addr} {od2 an2 : Option Addr} {sl2 : Array (Option Value)} {oc2 kV2 dc2 pm2 cd2 ct2 : Value}
    {f3 : Addr} {od3 an3 : Option Addr} {sl3 : Array (Option Value)} {oc3 kV3 dc3 pm3 cd3 ct3 : Value}
    {f4 : Addr} {od4 an4 : Option Addr} {sl4 : Array (Option Value)} {oc4 kV4 dc4 pm4 cd4 ct4 : Value}
    {f5 : Addr} {od5 an5 : Option Addr} {sl5 : Array (Option Value)} {oc5 kV5 dc5 pm5 cd5 ct5 : Value}
    {f6 : Addr} {od6 an6 : Option Addr} {sl6 : Array (Option Value)} {oc6 kV6 dc6 pm6 cd6 ct6 : Value}
    {f7 : Addr} {od7 an7 : Option Addr} {sl7 : Array (Option Value)} {oc7 kV7 dc7 pm7 cd7 ct7 : Value}
    {f8 : Addr} {od8 an8 : Option Addr} {sl8 : Array (Option Value)} {oc8 kV8 dc8 pm8 cd8 ct8 : Value}
    {f9 : Addr} {od9 an9 : Option Addr} {sl9 : Array (Option Value)} {oc9 kV9 dc9 pm9 cd9 ct9 : Value}
    {f10 : Addr} {od10 an10 : Option Addr} {sl10 : Array (Option Value)} {oc10 kV10 dc10 pm10 cd10 ct10 : Value}
    {f11 : Addr} {od11 an11 : Option Addr} {sl11 : Array (Option Value)} {oc11 kV11 dc11 pm11 cd11 ct11 : Value}
    {f12 : Addr} {od12 an12 : Option Addr} {sl12 : Array (Option Value)} {oc12 kV12 dc12 pm12 cd12 ct12 : Value}
    {f13 : Addr} {od13 an13 : Option Addr} {sl13 : Array (Option Value)} {oc13 kV13 dc13 pm13 cd13 ct13 : Value}
    {f14 : Addr} {od14 an14 : Option Addr} {sl14 : Array (Option Value)} {oc14 kV14 dc14 pm14 cd14 ct14 : Value}
    {f15 : Addr} {od15 an15 : Option Addr} {sl15 : Array (Option Value)} {oc15 kV15 dc15 pm15 cd15 ct15 : Value}
    {f16 : Addr} {od16 an16 : Option Addr} {sl16 : Array (Option Value)} {oc16 kV16 dc16 pm16 cd16 ct16 : Value}
    {f18 : Addr} {od18 an18 : Option Addr} {sl18 : Array (Option Value)} {oc18 kV18 dc18 pm18 cd18 ct18 : Value}
    {f19 : Addr} {od19 an19 : Option Addr} {sl19 : Array (Option Value)} {oc19 kV19 dc19 pm19 cd19 ct19 : Value}
    {f20 : Addr} {od20 an20 : Option Addr} {sl20 : Array (Option Value)} {oc20 kV20 dc20 pm20 cd20 ct20 : Value}
    {f21 : Addr} {od21 an21 : Option Addr} {sl21 : Array (Option Value)} {oc21 kV21 dc21 pm21 cd21 ct21 : Value}
    {f22 : Addr} {od22 an22 : Option Addr} {sl22 : Array (Option Value)} {oc22 kV22 dc22 pm22 cd22 ct22 : Value}
    {K0 : Addr}
    {K1 : Addr}
    {K2 : Addr}
    {K3 : Addr}
    {K4 : Addr}
    {K5 : Addr}
    {K6 : Addr}
    {J3 : Addr} {nm3 qu3 : Str} {N3 bs3 sn3 sub3 : _} {ab3 col3 dd3 m03 m13 m23 m33 m53 : _} {ioc3 idc3 ipm3 icd3 ict3 : Value} {iod3 ian3 : Option Addr} {isl3 : Array (Option Value)} {pa3 pb3 pc3 pd3 pe3 pf3 : Pos}
    {J4 : Addr} {nm4 qu4 : Str} {N4 bs4 sn4 sub4 : _} {ab4 col4 dd4 m04 m14 m24 m34 m54 : _} {ioc4 idc4 ipm4 icd4 ict4 : Value} {iod4 ian4 : Option Addr} {isl4 : Array (Option Value)} {pa4 pb4 pc4 pd4 pe4 pf4 : Pos}
    {J5 : Addr} {nm5 qu5 : Str} {N5 bs5 sn5 sub5 : _} {ab5 col5 dd5 m05 m15 m25 m35 m55 : _} {ioc5 idc5 ipm5 icd5 ict5 : Value} {iod5 ian5 : Option Addr} {isl5 : Array (Option Value)} {pa5 pb5 pc5 pd5 pe5 pf5 : Pos}
    {J6 : Addr} {nm6 qu6 : Str} {N6 bs6 sn6 sub6 : _} {ab6 col6 dd6 m06 m16 m26 m36 m56 : _} {ioc6 idc6 ipm6 icd6 ict6 : Value} {iod6 ian6 : Option Addr} {isl6 : Array (Option Value)} {pa6 pb6 pc6 pd6 pe6 pf6 : Pos}
    {tc0 : Tok}
    {tc1 : Tok}
    {tc2 : Tok}
    (oa0 : PySem.W.nsIn K mainGlobals "People" = some (some (.ref O0)))
    (opg0 : PySem.W.plainGet K O0 Str.empty = true)
    (ohd0 : PySem.W.hasDictIn K O0 = true)
    (opo0 : PySem.W.plainOver K O0 = true)
    (osa0 : PySem.W.findIn K (.ref O0) "__setattr__" = some (some (.builtin "object.__setattr__")))
    (omk0 : PySem.W.makesIn K O0 = true)
    (okc0 : PySem.W.keepIn K (.ref O0) = true)
    (oca0 : PySem.W.findIn K (.ref O0) "__class__" = some (some (.builtin "object.__class__")))
    (ocn0 : PySem.W.specialIn K (.builtin "object.__class__") "__get__" = some (some (.builtin "getset_descriptor.__get__")))
    (oct0 : PySem.W.takesIn K (.builtin "object.__class__") = some true)
    (ocm0 : PySem.W.mroIn K O0 (.type "object") = some true)
    (osf0 : PySem.W.selfFirst K O0 = true)
    (ocd0 : PySem.W.clsIn K O0 = some cdo0)
    (omr0 : cdo0.mro = [.ref O0, .type "object"])
    (one0 : PySem.W.findIn K (.ref O0) "__ne__" = some (some (.builtin "object.__ne__")))
    (ona_held0 : PySem.W.findIn K (.ref O0) "_held" = some none)
    (ona_groups0 : PySem.W.findIn K (.ref O0) "_groups" = some none)
    (onfdict0 : PySem.W.notFirst K O0 (.type "dict") = true)
    (onfint0 : PySem.W.notFirst K O0 (.type "int") = true)
    (oic0 : PySem.W.isClsIn K O0 = true)
    (oyt0 : PySem.W.typeIn K (.ref O0) = some (.type "type"))
    (oktdict0 : PySem.W.subIn K (.type "dict") (.ref O0) = some false)
    (oktint0 : PySem.W.subIn K (.type "int") (.ref O0) = some false)
    (a0 : PySem.W.nsIn K mainGlobals "is_name" = some (some (.ref f0)))
    (l0 : K.lookup f0 = some ⟨oc0, od0, .func (PySem.W.fnOf "is_name" "is_name" (defArgs s_is_name) (defBody s_is_name) (defScope s_is_name) .none kV0 dc0 pm0 an0 cd0 ct0), sl0⟩)
    (c0 : PySem.W.codeIn K cd0 "is_name" = true) (k0 : PySem.W.keepIn K (.ref f0) = true)
    (a1 : PySem.W.nsIn K mainGlobals "is_user_name" = some (some (.ref f1)))
    (l1 : K.lookup f1 = some ⟨oc1, od1, .func (PySem.W.fnOf "is_user_name" "is_user_name" (defArgs s_is_user_name) (defBody s_is_user_name) (defScope s_is_user_name) .none kV1 dc1 pm1 an1 cd1 ct1), sl1⟩)
    (c1 : PySem.W.codeIn K cd1 "is_user_name" = true) (k1 : PySem.W.keepIn K (.ref f1) = true)
    (a2 : PySem.W.nsIn K mainGlobals "is_list" = some (some (.ref f2)))
    (l2 : K.lookup f2 = some ⟨oc2, od2, .func (PySem.W.fnOf "is_list" "is_list" (defArgs s_is_list) (defBody s_is_list) (defScope s_is_list) .none kV2 dc2 pm2 an2 cd2 ct2), sl2⟩)
    (c2 : PySem.W.codeIn K cd2 "is_list" = true) (k2 : PySem.W.keepIn K (.ref f2) = true)
    (a3 : PySem.W.nsIn K mainGlobals "_are_users" = some (some (.ref f3)))
    (l3 : K.lookup f3 = some ⟨oc3, od3, .func (PySem.W.fnOf "_are_users" "_are_users" (defArgs s__are_users) (defBody s__are_users) (defScope s__are_users) .none kV3 dc3 pm3 an3 cd3 ct3), sl3⟩)
    (c3 : PySem.W.codeIn K cd3 "_are_users" = true) (k3 : PySem.W.keepIn K (.ref f3) = true)
    (a4 : PySem.W.nsIn K mainGlobals "_are_groups" = some (some (.ref f4)))
    (l4 : K.lookup f4 = some ⟨oc4, od4, .func (PySem.W.fnOf "_are_groups" "_are_groups" (defArgs s__are_groups) (defBody s__are_groups) (defScope s__are_groups) .none kV4 dc4 pm4 an4 cd4 ct4), sl4⟩)
    (c4 : PySem.W.codeIn K cd4 "_are_groups" = true) (k4 : PySem.W.keepIn K (.ref f4) = true)
    (a5 : PySem.W.nsIn K mainGlobals "_law_cell" = some (some (.ref f5)))
    (l5 : K.lookup f5 = some ⟨oc5, od5, .func (PySem.W.fnOf "_law_cell" "_law_cell" (defArgs s_cell) (defBody s_cell) (defScope s_cell) .none kV5 dc5 pm5 an5 cd5 ct5), sl5⟩)
    (c5 : PySem.W.codeIn K cd5 "_law_cell" = true) (k5 : PySem.W.keepIn K (.ref f5) = true)
    (a6 : PySem.W.nsIn K mainGlobals "_law_bag" = some (some (.ref f6)))
    (l6 : K.lookup f6 = some ⟨oc6, od6, .func (PySem.W.fnOf "_law_bag" "_law_bag" (defArgs s_bag) (defBody s_bag) (defScope s_bag) .none kV6 dc6 pm6 an6 cd6 ct6), sl6⟩)
    (c6 : PySem.W.codeIn K cd6 "_law_bag" = true) (k6 : PySem.W.keepIn K (.ref f6) = true)
    (a7 : PySem.W.nsIn K mainGlobals "_law_take" = some (some (.ref f7)))
    (l7 : K.lookup f7 = some ⟨oc7, od7, .func (PySem.W.fnOf "_law_take" "_law_take" (defArgs s_take) (defBody s_take) (defScope s_take) .none kV7 dc7 pm7 an7 cd7 ct7), sl7⟩)
    (c7 : PySem.W.codeIn K cd7 "_law_take" = true) (k7 : PySem.W.keepIn K (.ref f7) = true)
    (a8 : PySem.W.nsIn K mainGlobals "_law_good" = some (some (.ref f8)))
    (l8 : K.lookup f8 = some ⟨oc8, od8, .func (PySem.W.fnOf "_law_good" "_law_good" (defArgs s_good) (defBody s_good) (defScope s_good) .none kV8 dc8 pm8 an8 cd8 ct8), sl8⟩)
    (c8 : PySem.W.codeIn K cd8 "_law_good" = true) (k8 : PySem.W.keepIn K (.ref f8) = true)
    (a9 : PySem.W.nsIn K mainGlobals "_law_bad_groups" = some (some (.ref f9)))
    (l9 : K.lookup f9 = some ⟨oc9, od9, .func (PySem.W.fnOf "_law_bad_groups" "_law_bad_groups" (defArgs s_bad_groups) (defBody s_bad_groups) (defScope s_bad_groups) .none kV9 dc9 pm9 an9 cd9 ct9), sl9⟩)
    (c9 : PySem.W.codeIn K cd9 "_law_bad_groups" = true) (k9 : PySem.W.keepIn K (.ref f9) = true)
    (a10 : PySem.W.nsIn K mainGlobals "_law_is_name" = some (some (.ref f10)))
    (l10 : K.lookup f10 = some ⟨oc10, od10, .func (PySem.W.fnOf "_law_is_name" "_law_is_name" (defArgs s_l_is_name) (defBody s_l_is_name) (defScope s_l_is_name) .none kV10 dc10 pm10 an10 cd10 ct10), sl10⟩)
    (c10 : PySem.W.codeIn K cd10 "_law_is_name" = true) (k10 : PySem.W.keepIn K (.ref f10) = true)
    (a11 : PySem.W.nsIn K mainGlobals "_law_due" = some (some (.ref f11)))
    (l11 : K.lookup f11 = some ⟨oc11, od11, .func (PySem.W.fnOf "_law_due" "_law_due" (defArgs s_due) (defBody s_due) (defScope s_due) .none kV11 dc11 pm11 an11 cd11 ct11), sl11⟩)
    (c11 : PySem.W.codeIn K cd11 "_law_due" = true) (k11 : PySem.W.keepIn K (.ref f11) = true)
    (a12 : PySem.W.nsIn K mainGlobals "_law_tried" = some (some (.ref f12)))
    (l12 : K.lookup f12 = some ⟨oc12, od12, .func (PySem.W.fnOf "_law_tried" "_law_tried" (defArgs s_tried) (defBody s_tried) (defScope s_tried) .none kV12 dc12 pm12 an12 cd12 ct12), sl12⟩)
    (c12 : PySem.W.codeIn K cd12 "_law_tried" = true) (k12 : PySem.W.keepIn K (.ref f12) = true)
    (a13 : PySem.W.nsIn K mainGlobals "_law_spoilt" = some (some (.ref f13)))
    (l13 : K.lookup f13 = some ⟨oc13, od13, .func (PySem.W.fnOf "_law_spoilt" "_law_spoilt" (defArgs s_spoilt) (defBody s_spoilt) (defScope s_spoilt) .none kV13 dc13 pm13 an13 cd13 ct13), sl13⟩)
    (c13 : PySem.W.codeIn K cd13 "_law_spoilt" = true) (k13 : PySem.W.keepIn K (.ref f13) = true)
    (a14 : PySem.W.nsIn K mainGlobals "_law_named" = some (some (.ref f14)))
    (l14 : K.lookup f14 = some ⟨oc14, od14, .func (PySem.W.fnOf "_law_named" "_law_named" (defArgs s_named) (defBody s_named) (defScope s_named) .none kV14 dc14 pm14 an14 cd14 ct14), sl14⟩)
    (c14 : PySem.W.codeIn K cd14 "_law_named" = true) (k14 : PySem.W.keepIn K (.ref f14) = true)
    (a15 : PySem.W.nsIn K mainGlobals "law" = some (some (.ref f15)))
    (l15 : K.lookup f15 = some ⟨oc15, od15, .func (PySem.W.fnOf "law" "law" (defArgs s_law) (defBody s_law) (defScope s_law) .none kV15 dc15 pm15 an15 cd15 ct15), sl15⟩)
    (c15 : PySem.W.codeIn K cd15 "law" = true) (k15 : PySem.W.keepIn K (.ref f15) = true)
    (a16 : PySem.W.findIn K (.ref O0) "__init__" = some (some (.ref f16)))
    (t16 : PySem.W.isFn K (.ref f16) = true)
    (l16 : K.lookup f16 = some ⟨oc16, od16, .func (PySem.W.fnOf "__init__" "People.__init__" (defArgs s_People___init__) (defBody s_People___init__) (defScope s_People___init__) .none kV16 dc16 pm16 an16 cd16 ct16), sl16⟩)
    (c16 : PySem.W.codeIn K cd16 "People.__init__" = true)
    (k16 : PySem.W.keepIn K (.ref f16) = true)
    (a18 : PySem.W.findIn K (.ref O0) "groups" = some (some (.ref f18)))
    (t18 : PySem.W.isFn K (.ref f18) = true)
    (l18 : K.lookup f18 = some ⟨oc18, od18, .func (PySem.W.fnOf "groups" "People.groups" (defArgs s_People_groups) (defBody s_People_groups) (defScope s_People_groups) .none kV18 dc18 pm18 an18 cd18 ct18), sl18⟩)
    (c18 : PySem.W.codeIn K cd18 "People.groups" = true)
    (k18 : PySem.W.keepIn K (.ref f18) = true)
    (a19 : PySem.W.findIn K (.ref O0) "groups_of" = some (some (.ref f19)))
    (t19 : PySem.W.isFn K (.ref f19) = true)
    (l19 : K.lookup f19 = some ⟨oc19, od19, .func (PySem.W.fnOf "groups_of" "People.groups_of" (defArgs s_People_groups_of) (defBody s_People_groups_of) (defScope s_People_groups_of) .none kV19 dc19 pm19 an19 cd19 ct19), sl19⟩)
    (c19 : PySem.W.codeIn K cd19 "People.groups_of" = true)
    (k19 : PySem.W.keepIn K (.ref f19) = true)
    (a20 : PySem.W.findIn K (.ref O0) "first_group" = some (some (.ref f20)))
    (t20 : PySem.W.isFn K (.ref f20) = true)
    (l20 : K.lookup f20 = some ⟨oc20, od20, .func (PySem.W.fnOf "first_group" "People.first_group" (defArgs s_People_first_group) (defBody s_People_first_group) (defScope s_People_first_group) .none kV20 dc20 pm20 an20 cd20 ct20), sl20⟩)
    (c20 : PySem.W.codeIn K cd20 "People.first_group" = true)
    (k20 : PySem.W.keepIn K (.ref f20) = true)
    (a21 : PySem.W.findIn K (.ref O0) "members" = some (some (.ref f21)))
    (t21 : PySem.W.isFn K (.ref f21) = true)
    (l21 : K.lookup f21 = some ⟨oc21, od21, .func (PySem.W.fnOf "members" "People.members" (defArgs s_People_members) (defBody s_People_members) (defScope s_People_members) .none kV21 dc21 pm21 an21 cd21 ct21), sl21⟩)
    (c21 : PySem.W.codeIn K cd21 "People.members" = true)
    (k21 : PySem.W.keepIn K (.ref f21) = true)
    (a22 : PySem.W.findIn K (.ref O0) "__contains__" = some (some (.ref f22)))
    (t22 : PySem.W.isFn K (.ref f22) = true)
    (l22 : K.lookup f22 = some ⟨oc22, od22, .func (PySem.W.fnOf "__contains__" "People.__contains__" (defArgs s_People___contains__) (defBody s_People___contains__) (defScope s_People___contains__) .none kV22 dc22 pm22 an22 cd22 ct22), sl22⟩)
    (c22 : PySem.W.codeIn K cd22 "People.__contains__" = true)
    (k22 : PySem.W.keepIn K (.ref f22) = true)
    (ka0 : PySem.W.nsIn K mainGlobals "RightsError" = some (some (.ref K0)))
    (ka1 : PySem.W.nsIn K mainGlobals "MissingError" = some (some (.ref K1)))
    (ka2 : PySem.W.nsIn K mainGlobals "RefusedError" = some (some (.ref K2)))
    (ka3 : PySem.W.nsIn K mainGlobals "InvalidPeople" = some (some (.ref K3)))
    (ka4 : PySem.W.nsIn K mainGlobals "TooMany" = some (some (.ref K4)))
    (ka5 : PySem.W.nsIn K mainGlobals "UnknownUser" = some (some (.ref K5)))
    (ka6 : PySem.W.nsIn K mainGlobals "UnknownGroup" = some (some (.ref K6)))
    (ic0 : PySem.W.isClsIn K K0 = true) (yt0 : PySem.W.typeIn K (.ref K0) = some (.type "type"))
    (ic1 : PySem.W.isClsIn K K1 = true) (yt1 : PySem.W.typeIn K (.ref K1) = some (.type "type"))
    (ic2 : PySem.W.isClsIn K K2 = true) (yt2 : PySem.W.typeIn K (.ref K2) = some (.type "type"))
    (xl3 : K.lookup K3 = some (excClassObj nm3 qu3 K3 N3 bs3 [.ref K0, .type "ValueError", .type "Exception", .type "BaseException", .type "object"] true sn3 sub3 ab3 col3 dd3 m03 m13 m23 m33 m53 "ValueError.__new__"))
    (sa3 : PySem.W.findIn K (.ref K3) "__setattr__" = some (some (.builtin "object.__setattr__")))
    (ga3 : PySem.W.findIn K (.ref K3) "__getattribute__" = some (some (.builtin "BaseException.__getattribute__")))
    (gg3 : PySem.W.findIn K (.ref K3) "__getattr__" = some none)
    (nb3 : PySem.W.findIn K (.ref K3) "value" = some none)
    (in3 : PySem.W.findIn K (.ref K3) "__init__" = some (some (.ref J3)))
    (ti3 : PySem.W.typeIn K (.ref J3) = some (.type "function"))
    (li3 : K.lookup J3 = some ⟨ioc3, iod3, .func (PySem.W.fnOf "__init__" "InvalidPeople.__init__" (PySem.ExV.iA pa3 pb3) (PySem.ExV.iB pc3 pd3 pe3 pf3) PySem.ExV.iS .none .none idc3 ipm3 ian3 icd3 ict3), isl3⟩)
    (ci3 : PySem.W.codeIn K icd3 "InvalidPeople.__init__" = true)
    (kc3 : PySem.W.keepIn K (.ref K3) = true)
    (eb3 : PySem.W.subIn K (.ref K3) (.type "BaseException") = some true)
    (yt3 : PySem.W.typeIn K (.ref K3) = some (.type "type"))
    (hd3 : PySem.W.hasDictIn K K3 = true)
    (ic3 : PySem.W.isClsIn K K3 = true)
    (sc3 : PySem.W.subIn K (.ref K3) (.ref K3) = some true)
    (ca3 : PySem.W.findIn K (.ref K3) "__class__" = some (some (.builtin "object.__class__")))
    (cn3 : PySem.W.specialIn K (.builtin "object.__class__") "__get__" = some (some (.builtin "getset_descriptor.__get__")))
    (xt3 : PySem.W.takesIn K (.builtin "object.__class__") = some true)
    (cm3 : PySem.W.mroIn K K3 (.type "object") = some true)
    (xl4 : K.lookup K4 = some (excClassObj nm4 qu4 K4 N4 bs4 [.ref K0, .type "ValueError", .type "Exception", .type "BaseException", .type "object"] true sn4 sub4 ab4 col4 dd4 m04 m14 m24 m34 m54 "ValueError.__new__"))
    (sa4 : PySem.W.findIn K (.ref K4) "__setattr__" = some (some (.builtin "object.__setattr__")))
    (ga4 : PySem.W.findIn K (.ref K4) "__getattribute__" = some (some (.builtin "BaseException.__getattribute__")))
    (gg4 : PySem.W.findIn K (.ref K4) "__getattr__" = some none)
    (nb4 : PySem.W.findIn K (.ref K4) "count" = some none)
    (in4 : PySem.W.findIn K (.ref K4) "__init__" = some (some (.ref J4)))
    (ti4 : PySem.W.typeIn K (.ref J4) = some (.type "function"))
    (li4 : K.lookup J4 = some ⟨ioc4, iod4, .func (PySem.W.fnOf "__init__" "TooMany.__init__" (PySem.ExVc.iA pa4 pb4) (PySem.ExVc.iB pc4 pd4 pe4 pf4) PySem.ExVc.iS .none .none idc4 ipm4 ian4 icd4 ict4), isl4⟩)
    (ci4 : PySem.W.codeIn K icd4 "TooMany.__init__" = true)
    (kc4 : PySem.W.keepIn K (.ref K4) = true)
    (eb4 : PySem.W.subIn K (.ref K4) (.type "BaseException") = some true)
    (yt4 : PySem.W.typeIn K (.ref K4) = some (.type "type"))
    (hd4 : PySem.W.hasDictIn K K4 = true)
    (ic4 : PySem.W.isClsIn K K4 = true)
    (sc4 : PySem.W.subIn K (.ref K4) (.ref K4) = some true)
    (ca4 : PySem.W.findIn K (.ref K4) "__class__" = some (some (.builtin "object.__class__")))
    (cn4 : PySem.W.specialIn K (.builtin "object.__class__") "__get__" = some (some (.builtin "getset_descriptor.__get__")))
    (xt4 : PySem.W.takesIn K (.builtin "object.__class__") = some true)
    (cm4 : PySem.W.mroIn K K4 (.type "object") = some true)
    (xl5 : K.lookup K5 = some (excClassObj nm5 qu5 K5 N5 bs5 [.ref K1, .type "KeyError", .type "LookupError", .type "Exception", .type "BaseException", .type "object"] true sn5 sub5 ab5 col5 dd5 m05 m15 m25 m35 m55 "LookupError.__new__"))
    (sa5 : PySem.W.findIn K (.ref K5) "__setattr__" = some (some (.builtin "object.__setattr__")))
    (ga5 : PySem.W.findIn K (.ref K5) "__getattribute__" = some (some (.builtin "BaseException.__getattribute__")))
    (gg5 : PySem.W.findIn K (.ref K5) "__getattr__" = some none)
    (nb5 : PySem.W.findIn K (.ref K5) "name" = some none)
    (in5 : PySem.W.findIn K (.ref K5) "__init__" = some (some (.ref J5)))
    (ti5 : PySem.W.typeIn K (.ref J5) = some (.type "function"))
    (li5 : K.lookup J5 = some ⟨ioc5, iod5, .func (PySem.W.fnOf "__init__" "UnknownUser.__init__" (PySem.ExN.iA pa5 pb5) (PySem.ExN.iB pc5 pd5 pe5 pf5) PySem.ExN.iS .none .none idc5 ipm5 ian5 icd5 ict5), isl5⟩)
    (ci5 : PySem.W.codeIn K icd5 "UnknownUser.__init__" = true)
    (kc5 : PySem.W.keepIn K (.ref K5) = true)
    (eb5 : PySem.W.subIn K (.ref K5) (.type "BaseException") = some true)
    (yt5 : PySem.W.typeIn K (.ref K5) = some (.type "type"))
    (hd5 : PySem.W.hasDictIn K K5 = true)
    (ic5 : PySem.W.isClsIn K K5 = true)
    (sc5 : PySem.W.subIn K (.ref K5) (.ref K5) = some true)
    (ca5 : PySem.W.findIn K (.ref K5) "__class__" = some (some (.builtin "object.__class__")))
    (cn5 : PySem.W.specialIn K (.builtin "object.__class__") "__get__" = some (some (.builtin "getset_descriptor.__get__")))
    (xt5 : PySem.W.takesIn K (.builtin "object.__class__") = some true)
    (cm5 : PySem.W.mroIn K K5 (.type "object") = some true)
    (xl6 : K.lookup K6 = some (excClassObj nm6 qu6 K6 N6 bs6 [.ref K1, .type "KeyError", .type "LookupError", .type "Exception", .type "BaseException", .type "object"] true sn6 sub6 ab6 col6 dd6 m06 m16 m26 m36 m56 "LookupError.__new__"))
    (sa6 : PySem.W.findIn K (.ref K6) "__setattr__" = some (some (.builtin "object.__setattr__")))
    (ga6 : PySem.W.findIn K (.ref K6) "__getattribute__" = some (some (.builtin "BaseException.__getattribute__")))
    (gg6 : PySem.W.findIn K (.ref K6) "__getattr__" = some none)
    (nb6 : PySem.W.findIn K (.ref K6) "name" = some none)
    (in6 : PySem.W.findIn K (.ref K6) "__init__" = some (some (.ref J6)))
    (ti6 : PySem.W.typeIn K (.ref J6) = some (.type "function"))
    (li6 : K.lookup J6 = some ⟨ioc6, iod6, .func (PySem.W.fnOf "__init__" "UnknownGroup.__init__" (PySem.ExN.iA pa6 pb6) (PySem.ExN.iB pc6 pd6 pe6 pf6) PySem.ExN.iS .none .none idc6 ipm6 ian6 icd6 ict6), isl6⟩)
    (ci6 : PySem.W.codeIn K icd6 "UnknownGroup.__init__" = true)
    (kc6 : PySem.W.keepIn K (.ref K6) = true)
    (eb6 : PySem.W.subIn K (.ref K6) (.type "BaseException") = some true)
    (yt6 : PySem.W.typeIn K (.ref K6) = some (.type "type"))
    (hd6 : PySem.W.hasDictIn K K6 = true)
    (ic6 : PySem.W.isClsIn K K6 = true)
    (sc6 : PySem.W.subIn K (.ref K6) (.ref K6) = some true)
    (ca6 : PySem.W.findIn K (.ref K6) "__class__" = some (some (.builtin "object.__class__")))
    (cn6 : PySem.W.specialIn K (.builtin "object.__class__") "__get__" = some (some (.builtin "getset_descriptor.__get__")))
    (xt6 : PySem.W.takesIn K (.builtin "object.__class__") = some true)
    (cm6 : PySem.W.mroIn K K6 (.type "object") = some true)
    (kit_InvalidPeople_RightsError : PySem.W.subIn K (.ref K3) (.ref K0) = some true)
    (kit_InvalidPeople_MissingError : PySem.W.subIn K (.ref K3) (.ref K1) = some false)
    (kit_InvalidPeople_TooMany : PySem.W.subIn K (.ref K3) (.ref K4) = some false)
    (kit_TooMany_RightsError : PySem.W.subIn K (.ref K4) (.ref K0) = some true)
    (kit_TooMany_RefusedError : PySem.W.subIn K (.ref K4) (.ref K2) = some false)
    (kit_UnknownUser_MissingError : PySem.W.subIn K (.ref K5) (.ref K1) = some true)
    (kit_UnknownUser_UnknownGroup : PySem.W.subIn K (.ref K5) (.ref K6) = some false)
    (kit_UnknownGroup_MissingError : PySem.W.subIn K (.ref K6) (.ref K1) = some true)
    (kit_UnknownGroup_RightsError : PySem.W.subIn K (.ref K6) (.ref K0) = some false)
    (exm_TooMany_InvalidPeople : PySem.W.subIn K (.ref K4) (.ref K3) = some false)
    (exm_UnknownGroup_UnknownUser : PySem.W.subIn K (.ref K6) (.ref K5) = some false)
    (q0 : PySem.W.nsIn K mainGlobals "LONGEST_NAME" = some (some (.int 8 tc0)))
    (q1 : PySem.W.nsIn K mainGlobals "MOST_USERS" = some (some (.int 6 tc1)))
    (q2 : PySem.W.nsIn K mainGlobals "MOST_GROUPS" = some (some (.int 6 tc2)))
    (z0 : PySem.W.nsIn K mainGlobals "all" = some none)
    (z1 : PySem.W.nsIn K mainGlobals "dict" = some none)
    (z2 : PySem.W.nsIn K mainGlobals "isinstance" = some none)
    (z3 : PySem.W.nsIn K mainGlobals "len" = some none)
    (z4 : PySem.W.nsIn K mainGlobals "list" = some none)
    (z5 : PySem.W.nsIn K mainGlobals "max" = some none)
    (z6 : PySem.W.nsIn K mainGlobals "min" = some none)
    (z7 : PySem.W.nsIn K mainGlobals "range" = some none)
    (z8 : PySem.W.nsIn K mainGlobals "repr" = some none)
    (z9 : PySem.W.nsIn K mainGlobals "set" = some none)
    (z10 : PySem.W.nsIn K mainGlobals "sorted" = some none)
    (z11 : PySem.W.nsIn K mainGlobals "str" = some none)
    (z12 : PySem.W.nsIn K mainGlobals "tuple" = some none) :
    ∀ base : Heap, K.In base → base.Ns mainGlobals mg → FnG P w K mg base CX0 9 fa (spLaw K) := by
  have e := hfa.symm.trans (PySem.W.mg_of X G a15)
  cases e
  let A : Ads := {
    C_People := O0
    f_is_name := f0
    d_is_name := PySem.W.fnOf "is_name" "is_name" (defArgs s_is_name) (defBody s_is_name) (defScope s_is_name) .none kV0 dc0 pm0 an0 cd0 ct0
    f_is_user_name := f1
    d_is_user_name := PySem.W.fnOf "is_user_name" "is_user_name" (defArgs s_is_user_name) (defBody s_is_user_name) (defScope s_is_user_name) .none kV1 dc1 pm1 an1 cd1 ct1
    f_is_list := f2
    d_is_list := PySem.W.fnOf "is_list" "is_list" (defArgs s_is_list) (defBody s_is_list) (defScope s_is_list) .none kV2 dc2 pm2 an2 cd2 ct2
    f__are_users := f3
    d__are_users := PySem.W.fnOf "_are_users" "_are_users" (defArgs s__are_users) (defBody s__are_users) (defScope s__are_users) .none kV3 dc3 pm3 an3 cd3 ct3
    f__are_groups := f4
    d__are_groups := PySem.W.fnOf "_are_groups" "_are_groups" (defArgs s__are_groups) (defBody s__are_groups) (defScope s__are_groups) .none kV4 dc4 pm4 an4 cd4 ct4
    f_cell := f5
    d_cell := PySem.W.fnOf "_law_cell" "_law_cell" (defArgs s_cell) (defBody s_cell) (defScope s_cell) .none kV5 dc5 pm5 an5 cd5 ct5
    f_bag := f6
    d_bag := PySem.W.fnOf "_law_bag" "_law_bag" (defArgs s_bag) (defBody s_bag) (defScope s_bag) .none kV6 dc6 pm6 an6 cd6 ct6
    f_take := f7
    d_take := PySem.W.fnOf "_law_take" "_law_take" (defArgs s_take) (defBody s_take) (defScope s_take) .none kV7 dc7 pm7 an7 cd7 ct7
    f_good := f8
    d_good := PySem.W.fnOf "_law_good" "_law_good" (defArgs s_good) (defBody s_good) (defScope s_good) .none kV8 dc8 pm8 an8 cd8 ct8
    f_bad_groups := f9
    d_bad_groups := PySem.W.fnOf "_law_bad_groups" "_law_bad_groups" (defArgs s_bad_groups) (defBody s_bad_groups) (defScope s_bad_groups) .none kV9 dc9 pm9 an9 cd9 ct9
    f_l_is_name := f10
    d_l_is_name := PySem.W.fnOf "_law_is_name" "_law_is_name" (defArgs s_l_is_name) (defBody s_l_is_name) (defScope s_l_is_name) .none kV10 dc10 pm10 an10 cd10 ct10
    f_due := f11
    d_due := PySem.W.fnOf "_law_due" "_law_due" (defArgs s_due) (defBody s_due) (defScope s_due) .none kV11 dc11 pm11 an11 cd11 ct11
    f_tried := f12
    d_tried := PySem.W.fnOf "_law_tried" "_law_tried" (defArgs s_tried) (defBody s_tried) (defScope s_tried) .none kV12 dc12 pm12 an12 cd12 ct12
    f_spoilt := f13
    d_spoilt := PySem.W.fnOf "_law_spoilt" "_law_spoilt" (defArgs s_spoilt) (defBody s_spoilt) (defScope s_spoilt) .none kV13 dc13 pm13 an13 cd13 ct13
    f_named := f14
    d_named := PySem.W.fnOf "_law_named" "_law_named" (defArgs s_named) (defBody s_named) (defScope s_named) .none kV14 dc14 pm14 an14 cd14 ct14
    f_law := fa
    d_law := PySem.W.fnOf "law" "law" (defArgs s_law) (defBody s_law) (defScope s_law) .none kV15 dc15 pm15 an15 cd15 ct15
    f_People___init__ := f16
    d_People___init__ := PySem.W.fnOf "__init__" "People.__init__" (defArgs s_People___init__) (defBody s_People___init__) (defScope s_People___init__) .none kV16 dc16 pm16 an16 cd16 ct16
    f_People_groups := f18
    d_People_groups := PySem.W.fnOf "groups" "People.groups" (defArgs s_People_groups) (defBody s_People_groups) (defScope s_People_groups) .none kV18 dc18 pm18 an18 cd18 ct18
    f_People_groups_of := f19
    d_People_groups_of := PySem.W.fnOf "groups_of" "People.groups_of" (defArgs s_People_groups_of) (defBody s_People_groups_of) (defScope s_People_groups_of) .none kV19 dc19 pm19 an19 cd19 ct19
    f_People_first_group := f20
    d_People_first_group := PySem.W.fnOf "first_group" "People.first_group" (defArgs s_People_first_group) (defBody s_People_first_group) (defScope s_People_first_group) .none kV20 dc20 pm20 an20 cd20 ct20
    f_People_members := f21
    d_People_members := PySem.W.fnOf "members" "People.members" (defArgs s_People_members) (defBody s_People_members) (defScope s_People_members) .none kV21 dc21 pm21 an21 cd21 ct21
    f_People___contains__ := f22
    d_People___contains__ := PySem.W.fnOf "__contains__" "People.__contains__" (defArgs s_People___contains__) (defBody s_People___contains__) (defScope s_People___contains__) .none kV22 dc22 pm22 an22 cd22 ct22
    C_RightsError := K0
    C_MissingError := K1
    C_RefusedError := K2
    C_InvalidPeople := K3
    C_TooMany := K4
    C_UnknownUser := K5
    C_UnknownGroup := K6
    I_InvalidPeople := J3
    I_TooMany := J4
    I_UnknownUser := J5
    I_UnknownGroup := J6 }
  have T : Txt K mg A := {
    gC_People := PySem.W.mg_of X G oa0
    c_People := ⟨_, PySem.W.mg_of X G oa0, rfl⟩
    cl_People := ⟨opg0, ohd0, opo0, osa0⟩
    in_People := ⟨⟨opg0, ohd0, opo0, osa0⟩, oca0, ocn0, oct0, ocm0, by unfold PySem.W.kitOne; simp⟩
    sf_People := osf0
    cd_People := ⟨_, ocd0, omr0⟩
    ne_People := one0
    na_People__held := ona_held0
    na_People__groups := ona_groups0
    nf_People_dict := onfdict0
    nf_People_int := onfint0
    kt_People_dict := kit_ofT oic0 oyt0 oktdict0
    kt_People_int := kit_ofT oic0 oyt0 oktint0
    sb_People_dict := oktdict0
    sb_People_int := oktint0
    F_is_name := fun_mk l0 c0 k0
    B_is_name := (fun_mk (st := s_is_name) l0 c0 k0).binds (ps := ["value"]) fun _ _ _ _ _ _ us hl => match us, hl with | [_], _ => rfl
    g_is_name := PySem.W.mg_of X G a0
    F_is_user_name := fun_mk l1 c1 k1
    B_is_user_name := (fun_mk (st := s_is_user_name) l1 c1 k1).binds (ps := ["value"]) fun _ _ _ _ _ _ us hl => match us, hl with | [_], _ => rfl
    g_is_user_name := PySem.W.mg_of X G a1
    F_is_list := fun_mk l2 c2 k2
    B_is_list := (fun_mk (st := s_is_list) l2 c2 k2).binds (ps := ["value"]) fun _ _ _ _ _ _ us hl => match us, hl with | [_], _ => rfl
    g_is_list := PySem.W.mg_of X G a2
    F__are_users := fun_mk l3 c3 k3
    B__are_users := (fun_mk (st := s__are_users) l3 c3 k3).binds (ps := ["value"]) fun _ _ _ _ _ _ us hl => match us, hl with | [_], _ => rfl
    g__are_users := PySem.W.mg_of X G a3
    F__are_groups := fun_mk l4 c4 k4
    B__are_groups := (fun_mk (st := s__are_groups) l4 c4 k4).binds (ps := ["value"]) fun _ _ _ _ _ _ us hl => match us, hl with | [_], _ => rfl
    g__are_groups := PySem.W.mg_of X G a4
    F_cell := fun_mk l5 c5 k5
    B_cell := (fun_mk (st := s_cell) l5 c5 k5).binds (ps := ["_law_script", "_law_k"]) fun _ _ _ _ _ _ us hl => match us, hl with | [_, _], _ => rfl
    g_cell := PySem.W.mg_of X G a5
    F_bag := fun_mk l6 c6 k6
    B_bag := (fun_mk (st := s_bag) l6 c6 k6).binds (ps := ["_law_number"]) fun _ _ _ _ _ _ us hl => match us, hl with | [_], _ => rfl
    g_bag := PySem.W.mg_of X G a6
    F_take := fun_mk l7 c7 k7
    B_take := (fun_mk (st := s_take) l7 c7 k7).binds (ps := ["_law_bag_here", "_law_count"]) fun _ _ _ _ _ _ us hl => match us, hl with | [_, _], _ => rfl
    g_take := PySem.W.mg_of X G a7
    F_good := fun_mk l8 c8 k8
    B_good := (fun_mk (st := s_good) l8 c8 k8).binds (ps := ["_law_bag_here"]) fun _ _ _ _ _ _ us hl => match us, hl with | [_], _ => rfl
    g_good := PySem.W.mg_of X G a8
    F_bad_groups := fun_mk l9 c9 k9
    B_bad_groups := (fun_mk (st := s_bad_groups) l9 c9 k9).binds (ps := ["_law_bag_here", "_law_groups"]) fun _ _ _ _ _ _ us hl => match us, hl with | [_, _], _ => rfl
    g_bad_groups := PySem.W.mg_of X G a9
    F_l_is_name := fun_mk l10 c10 k10
    B_l_is_name := (fun_mk (st := s_l_is_name) l10 c10 k10).binds (ps := ["_law_thing"]) fun _ _ _ _ _ _ us hl => match us, hl with | [_], _ => rfl
    g_l_is_name := PySem.W.mg_of X G a10
    F_due := fun_mk l11 c11 k11
    B_due := (fun_mk (st := s_due) l11 c11 k11).binds (ps := ["_law_members"]) fun _ _ _ _ _ _ us hl => match us, hl with | [_], _ => rfl
    g_due := PySem.W.mg_of X G a11
    F_tried := fun_mk l12 c12 k12
    B_tried := (fun_mk (st := s_tried) l12 c12 k12).binds (ps := ["_law_members"]) fun _ _ _ _ _ _ us hl => match us, hl with | [_], _ => rfl
    g_tried := PySem.W.mg_of X G a12
    F_spoilt := fun_mk l13 c13 k13
    B_spoilt := (fun_mk (st := s_spoilt) l13 c13 k13).binds (ps := ["_law_bag_here", "_law_members"]) fun _ _ _ _ _ _ us hl => match us, hl with | [_, _], _ => rfl
    g_spoilt := PySem.W.mg_of X G a13
    F_named := fun_mk l14 c14 k14
    B_named := (fun_mk (st := s_named) l14 c14 k14).binds (ps := ["_law_people", "_law_way", "_law_name"]) fun _ _ _ _ _ _ us hl => match us, hl with | [_, _, _], _ => rfl
    g_named := PySem.W.mg_of X G a14
    F_law := fun_mk l15 c15 k15
    B_law := (fun_mk (st := s_law) l15 c15 k15).binds (ps := ["_law_script"]) fun _ _ _ _ _ _ us hl => match us, hl with | [_], _ => rfl
    g_law := PySem.W.mg_of X G a15
    F_People___init__ := fun_mk l16 c16 k16
    B_People___init__ := (fun_mk (st := s_People___init__) l16 c16 k16).binds (ps := ["self", "members"]) fun _ _ _ _ _ _ us hl => match us, hl with | [_, _], _ => rfl
    me_People___init__ := ⟨a16, t16, k16⟩
    mk_People := ⟨omk0, a16, t16, okc0⟩
    F_People_groups := fun_mk l18 c18 k18
    B_People_groups := (fun_mk (st := s_People_groups) l18 c18 k18).binds (ps := ["self"]) fun _ _ _ _ _ _ us hl => match us, hl with | [_], _ => rfl
    me_People_groups := ⟨a18, t18, k18⟩
    F_People_groups_of := fun_mk l19 c19 k19
    B_People_groups_of := (fun_mk (st := s_People_groups_of) l19 c19 k19).binds (ps := ["self", "user"]) fun _ _ _ _ _ _ us hl => match us, hl with | [_, _], _ => rfl
    me_People_groups_of := ⟨a19, t19, k19⟩
    F_People_first_group := fun_mk l20 c20 k20
    B_People_first_group := (fun_mk (st := s_People_first_group) l20 c20 k20).binds (ps := ["self", "user"]) fun _ _ _ _ _ _ us hl => match us, hl with | [_, _], _ => rfl
    me_People_first_group := ⟨a20, t20, k20⟩
    F_People_members := fun_mk l21 c21 k21
    B_People_members := (fun_mk (st := s_People_members) l21 c21 k21).binds (ps := ["self", "group"]) fun _ _ _ _ _ _ us hl => match us, hl with | [_, _], _ => rfl
    me_People_members := ⟨a21, t21, k21⟩
    F_People___contains__ := fun_mk l22 c22 k22
    B_People___contains__ := (fun_mk (st := s_People___contains__) l22 c22 k22).binds (ps := ["self", "value"]) fun _ _ _ _ _ _ us hl => match us, hl with | [_, _], _ => rfl
    me_People___contains__ := ⟨a22, t22, k22⟩
    c_RightsError := ⟨_, PySem.W.mg_of X G ka0, rfl⟩
    c_MissingError := ⟨_, PySem.W.mg_of X G ka1, rfl⟩
    c_RefusedError := ⟨_, PySem.W.mg_of X G ka2, rfl⟩
    c_InvalidPeople := ⟨_, PySem.W.mg_of X G ka3, rfl⟩
    c_TooMany := ⟨_, PySem.W.mg_of X G ka4, rfl⟩
    c_UnknownUser := ⟨_, PySem.W.mg_of X G ka5, rfl⟩
    c_UnknownGroup := ⟨_, PySem.W.mg_of X G ka6, rfl⟩
    low_InvalidPeople := { gC := PySem.W.mg_of X G ka3, cls := ⟨_, _, _, _, _, _, _, _, _, _, _, _, _, _, _, xl3, rfl⟩, sa := sa3, ga := ga3, gg := gg3, noN := nb3, iC := in3, tC := ti3, kC := kc3, exC := eb3, tyC := yt3, hdC := hd3, te := exm_of eb3 ic3 yt3 sc3, fn := ⟨_, _, _, _, _, _, _, _, _, _, _, _, _, _, li3, ci3⟩ }
    ec_InvalidPeople := ⟨ga3, gg3, eb3, hd3, ca3, cn3, xt3, cm3⟩
    low_TooMany := { gC := PySem.W.mg_of X G ka4, cls := ⟨_, _, _, _, _, _, _, _, _, _, _, _, _, _, _, xl4, rfl⟩, sa := sa4, ga := ga4, gg := gg4, noN := nb4, iC := in4, tC := ti4, kC := kc4, exC := eb4, tyC := yt4, hdC := hd4, te := exm_of eb4 ic4 yt4 sc4, fn := ⟨_, _, _, _, _, _, _, _, _, _, _, _, _, _, li4, ci4⟩ }
    ec_TooMany := ⟨ga4, gg4, eb4, hd4, ca4, cn4, xt4, cm4⟩
    low_UnknownUser := { gC := PySem.W.mg_of X G ka5, cls := ⟨_, _, _, _, _, _, _, _, _, _, _, _, _, _, _, xl5, (PySem.ExM.Over.ref _ (PySem.ExM.Over.base)).rear PySem.ExM.rear_key⟩, sa := sa5, ga := ga5, gg := gg5, noN := nb5, iC := in5, tC := ti5, kC := kc5, exC := eb5, tyC := yt5, hdC := hd5, te := exm_of eb5 ic5 yt5 sc5, fn := ⟨_, _, _, _, _, _, _, _, _, _, _, _, _, _, li5, ci5⟩ }
    ec_UnknownUser := ⟨ga5, gg5, eb5, hd5, ca5, cn5, xt5, cm5⟩
    low_UnknownGroup := { gC := PySem.W.mg_of X G ka6, cls := ⟨_, _, _, _, _, _, _, _, _, _, _, _, _, _, _, xl6, (PySem.ExM.Over.ref _ (PySem.ExM.Over.base)).rear PySem.ExM.rear_key⟩, sa := sa6, ga := ga6, gg := gg6, noN := nb6, iC := in6, tC := ti6, kC := kc6, exC := eb6, tyC := yt6, hdC := hd6, te := exm_of eb6 ic6 yt6 sc6, fn := ⟨_, _, _, _, _, _, _, _, _, _, _, _, _, _, li6, ci6⟩ }
    ec_UnknownGroup := ⟨ga6, gg6, eb6, hd6, ca6, cn6, xt6, cm6⟩
    kit_InvalidPeople_RightsError := kit_of sc3 ic0 yt0 kit_InvalidPeople_RightsError
    kit_InvalidPeople_MissingError := kit_of sc3 ic1 yt1 kit_InvalidPeople_MissingError
    kit_InvalidPeople_TooMany := kit_of sc3 ic4 yt4 kit_InvalidPeople_TooMany
    kit_TooMany_RightsError := kit_of sc4 ic0 yt0 kit_TooMany_RightsError
    kit_TooMany_RefusedError := kit_of sc4 ic2 yt2 kit_TooMany_RefusedError
    kit_UnknownUser_MissingError := kit_of sc5 ic1 yt1 kit_UnknownUser_MissingError
    kit_UnknownUser_UnknownGroup := kit_of sc5 ic6 yt6 kit_UnknownUser_UnknownGroup
    kit_UnknownGroup_MissingError := kit_of sc6 ic1 yt1 kit_UnknownGroup_MissingError
    kit_UnknownGroup_RightsError := kit_of sc6 ic0 yt0 kit_UnknownGroup_RightsError
    exm_TooMany_InvalidPeople := exm_of eb3 ic3 yt3 exm_TooMany_InvalidPeople
    exm_UnknownGroup_UnknownUser := exm_of eb5 ic5 yt5 exm_UnknownGroup_UnknownUser
    c_LONGEST_NAME := ⟨_, PySem.W.mg_of X G q0, _, rfl⟩
    c_MOST_USERS := ⟨_, PySem.W.mg_of X G q1, _, rfl⟩
    c_MOST_GROUPS := ⟨_, PySem.W.mg_of X G q2, _, rfl⟩
    b_all := PySem.W.mg_none_of X G z0
    b_dict := PySem.W.mg_none_of X G z1
    b_isinstance := PySem.W.mg_none_of X G z2
    b_len := PySem.W.mg_none_of X G z3
    b_list := PySem.W.mg_none_of X G z4
    b_max := PySem.W.mg_none_of X G z5
    b_min := PySem.W.mg_none_of X G z6
    b_range := PySem.W.mg_none_of X G z7
    b_repr := PySem.W.mg_none_of X G z8
    b_set := PySem.W.mg_none_of X G z9
    b_sorted := PySem.W.mg_none_of X G z10
    b_str := PySem.W.mg_none_of X G z11
    b_tuple := PySem.W.mg_none_of X G z12 }
  exact fun base _ _ => ok_law T
end K24
namespace PySem.W.Fast
theorem tw2754708734880357155 : True := .intro
theorem tw15406042276243604687 : True := .intro
theorem tw10887604148027652147 : True := .intro
theorem tw1656361904459374446 : True := .intro
theorem tw16131364345574411994 : True := .intro
theorem tw3274970222805334999 : True := .intro
theorem tw17781666559578102412 : True := .intro
theorem tw98838249151059683 : True := .intro
theorem tw2189277119200332247 : True := .intro
theorem tw17993451002918476903 : True := .intro
theorem tw12192598707239633585 : True := .intro
theorem tw14678887763871774159 : True := .intro
theorem tw4827057930102151259 : True := .intro
theorem tw11860725276016469362 : True := .intro
theorem tw5824745713400136122 : True := .intro
theorem tw10864140382754510234 : True := .intro
theorem tw17304900322652067977 : True := .intro
theorem tw14384349647859660822 : True := .intro
theorem tw14719624753299163410 : True := .intro
theorem tw15142001875115313244 : True := .intro
theorem tw6227452478374807840 : True := .intro
theorem tw15625304708632213968 : True := .intro
theorem tw13565587001326620134 : True := .intro
theorem tw9648659612685546625 : True := .intro
theorem tw3783367643355899442 : True := .intro
theorem tw18396238680678629122 : True := .intro
theorem tw15792330429078905165 : True := .intro
theorem tw10790680116187882527 : True := .intro
theorem tw1757525553611818619 : True := .intro
theorem tw3866331919441542235 : True := .intro
theorem tw1565738432899745646 : True := .intro
theorem tw17228339888641545027 : True := .intro
theorem tw2737903615960636999 : True := .intro
theorem tw17515384976645870181 : True := .intro
theorem tw17051709007249127894 : True := .intro
theorem tw11273431994734899233 : True := .intro
theorem tw17945146173505989901 : True := .intro
theorem tw409477778445723054 : True := .intro
theorem tw6577345305711230954 : True := .intro
theorem tw5797797275082157890 : True := .intro
theorem tw4253348153315600262 : True := .intro
theorem tw17816138840000434799 : True := .intro
theorem tw3811469958577086552 : True := .intro
theorem tw13931214325057249319 : True := .intro
theorem tw6694083569601428780 : True := .intro
theorem tw13988695550394889683 : True := .intro
theorem tw137208636763132778 : True := .intro
theorem tw9140750556288121057 : True := .intro
theorem tw11877361058201573199 : True := .intro
theorem tw2352620440572368357 : True := .intro
theorem tw15652101270255671579 : True := .intro
theorem tw11011635674270188814 : True := .intro
theorem tw15861106860042477567 : True := .intro
theorem tw88787080903110480 : True := .intro
theorem tw993338010747095611 : True := .intro
theorem tw17835455691974906156 : True := .intro
theorem tw5687094419389731958 : True := .intro
theorem tw9706249180841968723 : True := .intro
theorem tw13034712167730320422 : True := .intro
theorem tw9568119305002410112 : True := .intro
theorem tw16524244714211917587 : True := .intro
theorem tw7603230676274136753 : True := .intro
theorem tw1748765249691370553 : True := .intro
theorem tw5885685322675714384 : True := .intro
theorem tw3592575410421514786 : True := .intro
theorem tw7786567718569844622 : True := .intro
theorem tw4636112052101797727 : True := .intro
theorem tw1597462664262493309 : True := .intro
theorem tw14680417081127212557 : True := .intro
theorem tw6707486415140208631 : True := .intro
theorem tw13334533086844441918 : True := .intro
theorem tw8740205426621014172 : True := .intro
theorem tw15786250143568738065 : True := .intro
theorem tw8718492241499827350 : True := .intro
theorem tw1584104861914726352 : True := .intro
theorem tw382357929280062010 : True := .intro
theorem tw9797979359419251845 : True := .intro
theorem tw11176769225089634131 : True := .intro
theorem tw17521274052609856208 : True := .intro
theorem tw893235728885943143 : True := .intro
theorem tw14495987061788738978 : True := .intro
theorem tw13407779089303063648 : True := .intro
theorem tw7244894027531642757 : True := .intro
theorem tw5801572702717820859 : True := .intro
theorem tw11219542685087702842 : True := .intro
theorem tw13943451622334005183 : True := .intro
theorem tw3728325616794054998 : True := .intro
theorem tw16258832832607516158 : True := .intro
theorem tw15872006611892907920 : True := .intro
theorem tw12102964908444088743 : True := .intro
theorem tw15260893474457172071 : True := .intro
theorem tw5170690485470887477 : True := .intro
theorem tw10079698387594815711 : True := .intro
theorem tw17921146155818020710 : True := .intro
theorem tw10392652024105035280 : True := .intro
theorem tw17846219323559935506 : True := .intro
theorem tw1837220408322969846 : True := .intro
theorem tw2065183056288464863 : True := .intro
theorem tw8514430874931857795 : True := .intro
theorem tw7488034514242506 : True := .intro
theorem tw2312889109268413 : True := .intro
theorem tw3489601560126656071 : True := .intro
theorem tw9470621175770242232 : True := .intro
theorem tw13567242136126008897 : True := .intro
theorem tw9549604255230876816 : True := .intro
theorem tw8306664089705229731 : True := .intro
theorem tw13809209219780280727 : True := .intro
theorem tw17077383447320266846 : True := .intro
theorem tw16541221397572055564 : True := .intro
theorem tw10950423896577954615 : True := .intro
theorem tw7419415778851733621 : True := .intro
theorem tw2696118965203289768 : True := .intro
theorem tw17699851940981337983 : True := .intro
theorem tw2543858808047086447 : True := .intro
theorem tw17878066420708652355 : True := .intro
theorem tw17628585457748511980 : True := .intro
theorem tw9687069727955491037 : True := .intro
theorem tw8498832133343005755 : True := .intro
theorem tw4402992970360441990 : True := .intro
theorem tw15184668798811236967 : True := .intro
theorem tw7806121982428345054 : True := .intro
theorem tw16462263777521493526 : True := .intro
theorem tw3930143452582157088 : True := .intro
theorem tw17553629921006529846 : True := .intro
theorem tw91588734218828011 : True := .intro
theorem tw12289725290399476944 : True := .intro
theorem tw16878392806378693798 : True := .intro
theorem tw12134531907648841137 : True := .intro
theorem tw4258169292726460053 : True := .intro
theorem tw5649329841027032350 : True := .intro
theorem tw8501378746619238940 : True := .intro
theorem tw6612880017420809763 : True := .intro
theorem tw821181703220577277 : True := .intro
theorem tw2204151356855137126 : True := .intro
theorem tw7431077591857137347 : True := .intro
theorem tw13421549993122250910 : True := .intro
theorem tw555368453712174357 : True := .intro
theorem tw12912934072193923009 : True := .intro
theorem tw4171176157860038321 : True := .intro
theorem tw15515337428065855430 : True := .intro
theorem tw17157924692455355748 : True := .intro
theorem tw12936786516770824571 : True := .intro
theorem tw12985554321380169540 : True := .intro
theorem tw15836320714714802284 : True := .intro
theorem tw7408104911940314435 : True := .intro
theorem tw12788683011175140123 : True := .intro
theorem tw4890009198315243499 : True := .intro
theorem tw4001320734176692599 : True := .intro
theorem tw5264124424555843851 : True := .intro
theorem tw16431674393824440734 : True := .intro
theorem tw7244510995660818222 : True := .intro
theorem tw553034467047448331 : True := .intro
theorem tw3861042884359332902 : True := .intro
theorem tw12337502785789168913 : True := .intro
theorem tw5020192534294679253 : True := .intro
theorem tw6490375233204348630 : True := .intro
theorem tw4310069458189365138 : True := .intro
theorem tw8497814627463227941 : True := .intro
theorem tw11723587883314980374 : True := .intro
theorem tw150835088480330395 : True := .intro
theorem tw14175376517065010535 : True := .intro
theorem tw10679041081526964320 : True := .intro
theorem tw3359851056560774373 : True := .intro
theorem tw6592718831917007570 : True := .intro
theorem tw1524604775161331353 : True := .intro
theorem tw366962039321614958 : True := .intro
theorem tw2295844501210143016 : True := .intro
theorem tw5404314552464904674 : True := .intro
theorem tw6715820327121403020 : True := .intro
theorem tw9059962842395589441 : True := .intro
theorem tw14754900459052596800 : True := .intro
theorem tw13325971654776015357 : True := .intro
theorem tw12367763099532291768 : True := .intro
theorem tw18367416738942518180 : True := .intro
theorem tw4324641166234748400 : True := .intro
theorem tw3565037486923116794 : True := .intro
theorem tw7157527946120807235 : True := .intro
theorem tw2653114887525245144 : True := .intro
theorem tw5125084122611534218 : True := .intro
theorem tw15225366675501161345 : True := .intro
theorem tw13606903627478573245 : True := .intro
theorem tw8540025191201778529 : True := .intro
theorem tw6954008723499446746 : True := .intro
theorem tw12631416275976247146 : True := .intro
theorem tw1719763596898423831 : True := .intro
theorem tw1532649025396934633 : True := .intro
theorem tw8712915534643460010 : True := .intro
theorem tw12240717824572198599 : True := .intro
theorem tw1119125269709897952 : True := .intro
theorem tw7249340140412955412 : True := .intro
theorem tw16666695508767361045 : True := .intro
theorem tw4068710852844379285 : True := .intro
theorem tw509794113504420392 : True := .intro
theorem tw15646414280752750451 : True := .intro
theorem tw3519977071371636612 : True := .intro
theorem tw878571012066391392 : True := .intro
theorem tw3142576748103521867 : True := .intro
theorem tw6901754996529233592 : True := .intro
theorem tw9394228450443967195 : True := .intro
theorem tw3639748917989967306 : True := .intro
theorem tw5924615370665302070 : True := .intro
theorem tw17608950514803753162 : True := .intro
theorem tw7158200162827687796 : True := .intro
theorem tw7946574407565801404 : True := .intro
theorem tw7427093793951648949 : True := .intro
theorem tw7329826747168599101 : True := .intro
theorem tw5064152005449374069 : True := .intro
theorem tw11549832738915746120 : True := .intro
theorem tw8735552441632965199 : True := .intro
theorem tw4208703687270644806 : True := .intro
theorem tw14999681252029740659 : True := .intro
theorem tw10027831064554829666 : True := .intro
theorem tw10971842698791809884 : True := .intro
theorem tw9028153597682669600 : True := .intro
theorem tw7589781436954522913 : True := .intro
theorem tw4217773727736156905 : True := .intro
theorem tw5577151769096371048 : True := .intro
theorem tw5203939447970863470 : True := .intro
theorem tw2190458773523111744 : True := .intro
theorem tw6352855186542379724 : True := .intro
theorem tw12168868434932029209 : True := .intro
theorem tw14716568662239722182 : True := .intro
theorem tw9372810542999032825 : True := .intro
theorem tw15634488946848108127 : True := .intro
theorem tw7557749161339879625 : True := .intro
theorem tw11840702007431850922 : True := .intro
theorem tw6340250930329594276 : True := .intro
theorem tw15931521873545843404 : True := .intro
theorem tw864654885987248611 : True := .intro
theorem tw6579587766812338499 : True := .intro
theorem tw15823022547409198773 : True := .intro
theorem tw14277025529861977423 : True := .intro
theorem tw827511726106899364 : True := .intro
theorem tw13500687009252059485 : True := .intro
theorem tw2578215614176318532 : True := .intro
theorem tw863441762152573013 : True := .intro
theorem tw12102046969887283002 : True := .intro
theorem tw9989577513204074430 : True := .intro
theorem tw17520677999796407198 : True := .intro
theorem tw8427096774652524609 : True := .intro
theorem tw15377521849525149591 : True := .intro
theorem tw5464670250922392908 : True := .intro
theorem tw2205268573419262012 : True := .intro
theorem tw10023617689765853599 : True := .intro
theorem tw7907111344114038583 : True := .intro
theorem tw2050393216447492103 : True := .intro
theorem tw11918600771648773505 : True := .intro
theorem tw2222418898755878206 : True := .intro
theorem tw1046352136774351065 : True := .intro
theorem tw6455679024771170797 : True := .intro
theorem tw5731973432904565655 : True := .intro
theorem tw1588393172628771917 : True := .intro
theorem tw4998978250246481045 : True := .intro
theorem tw14917392082645956891 : True := .intro
theorem tw6169576009677935326 : True := .intro
theorem tw18394232261836361456 : True := .intro
theorem tw9018917680782968714 : True := .intro
theorem tw12167205261956847678 : True := .intro
theorem tw244405430376303409 : True := .intro
theorem tw13574067382016285461 : True := .intro
theorem tw7509265730553067102 : True := .intro
theorem tw4681475122671430317 : True := .intro
theorem tw4149169094656956361 : True := .intro
theorem tw5381584843586928313 : True := .intro
theorem tw6360835149360280510 : True := .intro
theorem tw16827380718482944189 : True := .intro
theorem tw5237721005934171756 : True := .intro
theorem tw5891791038782924153 : True := .intro
theorem tw10918261433408502455 : True := .intro
theorem tw2381200598969344927 : True := .intro
theorem tw12868202263975976947 : True := .intro
theorem tw11554996842667629161 : True := .intro
theorem tw228206129477486855 : True := .intro
theorem tw13877262356285344332 : True := .intro
theorem tw11753549209675705671 : True := .intro
theorem tw1356320299073641500 : True := .intro
theorem tw1822616831946716638 : True := .intro
theorem tw7489010150763273076 : True := .intro
theorem tw14946904114844828784 : True := .intro
theorem tw13352738245036377255 : True := .intro
theorem tw10257783567407989411 : True := .intro
theorem tw10327459873169375530 : True := .intro
theorem tw17588608069514615568 : True := .intro
theorem tw9314536208466039951 : True := .intro
theorem tw12959363445133909360 : True := .intro
theorem tw4107286885062997692 : True := .intro
theorem tw8599757562487508714 : True := .intro
theorem tw15007555166087077247 : True := .intro
theorem tw14975877487342329523 : True := .intro
theorem tw4312025458851948741 : True := .intro
theorem tw7518059487945714210 : True := .intro
theorem tw1364586653202450488 : True := .intro
theorem tw7363194808842951719 : True := .intro
theorem tw11980342207105677726 : True := .intro
theorem tw12556623181061442452 : True := .intro
theorem tw5987857794036135384 : True := .intro
theorem tw15026986951611938689 : True := .intro
theorem tw16432937940965829993 : True := .intro
theorem tw6821495439243535599 : True := .intro
theorem tw13291524463665465305 : True := .intro
theorem tw14483438587921839556 : True := .intro
theorem tw16038818609953278723 : True := .intro
theorem tw17224480383364541098 : True := .intro
theorem tw15515440394514843421 : True := .intro
theorem tw5584948383376454373 : True := .intro
theorem tw17434140902976727883 : True := .intro
theorem tw8891246986714708375 : True := .intro
theorem tw6500901618571049638 : True := .intro
theorem tw17982535429413273406 : True := .intro
theorem tw12234442478069910590 : True := .intro
theorem tw14701223040716941348 : True := .intro
theorem tw6065806014539806584 : True := .intro
theorem tw10015967344986987064 : True := .intro
theorem tw3196343085073016222 : True := .intro
theorem tw14868761478769369570 : True := .intro
theorem tw17749427576676314568 : True := .intro
theorem tw13307526106228297747 : True := .intro
theorem tw17409057040186940917 : True := .intro
theorem tw11306074703726786839 : True := .intro
theorem tw4152028769271335583 : True := .intro
theorem tw17019336334676694783 : True := .intro
theorem tw9346075471528665808 : True := .intro
theorem tw4815486767870700271 : True := .intro
theorem tw6139562855976367504 : True := .intro
theorem tw17661885996916411444 : True := .intro
theorem tw14247384289436217647 : True := .intro
theorem tw14728169422802084417 : True := .intro
theorem tw7074561429597674710 : True := .intro
theorem tw10565699728770663629 : True := .intro
theorem tw11667275874195144419 : True := .intro
theorem tw14152221268587668394 : True := .intro
theorem tw8940778388488475324 : True := .intro
theorem tw7023749305552635231 : True := .intro
theorem tw11234678063452740181 : True := .intro
theorem tw12032631870459119018 : True := .intro
theorem tw1182754794376062108 : True := .intro
theorem tw10360807628003042178 : True := .intro
theorem tw16359882654038427539 : True := .intro
theorem tw12781565154727463251 : True := .intro
theorem tw6799429261925566606 : True := .intro
theorem tw7880575914830650135 : True := .intro
theorem tw681781162807388908 : True := .intro
theorem tw7904093095276472165 : True := .intro
theorem tw10090732621986064 : True := .intro
theorem tw17585460843132066599 : True := .intro
theorem tw11744151778149996943 : True := .intro
theorem tw6791952342487622954 : True := .intro
theorem tw12793211607930840524 : True := .intro
theorem tw13964336234633587471 : True := .intro
theorem tw12136768823868192335 : True := .intro
theorem tw11120920431879119952 : True := .intro
theorem tw206313121115220765 : True := .intro
theorem tw12362317985056685188 : True := .intro
theorem tw9207469077055342268 : True := .intro
theorem tw6856945099872798182 : True := .intro
theorem tw16375780815464180014 : True := .intro
theorem tw9539009076994844647 : True := .intro
theorem tw4355720409528681566 : True := .intro
theorem tw9226553326019955725 : True := .intro
theorem tw15119319885868043215 : True := .intro
theorem tw3328515722397776570 : True := .intro
theorem tw1644110198720169336 : True := .intro
theorem tw952784633550210911 : True := .intro
theorem tw14041860966770872923 : True := .intro
theorem tw459136068783577133 : True := .intro
theorem tw10842085867914125504 : True := .intro
theorem tw7326148254327871950 : True := .intro
theorem tw6199017636060130357 : True := .intro
theorem tw14737744787705442326 : True := .intro
theorem tw13481055688541798104 : True := .intro
theorem tw13266229832839839575 : True := .intro
theorem tw6084458562813859991 : True := .intro
theorem tw15534425330110400326 : True := .intro
theorem tw5163939848062006015 : True := .intro
theorem tw4570165339281482233 : True := .intro
theorem tw1302898037426148234 : True := .intro
theorem tw8410425684120067820 : True := .intro
theorem tw17290340776723490585 : True := .intro
theorem tw16594235409167643383 : True := .intro
theorem tw528666428268980482 : True := .intro
theorem tw17116604252004420052 : True := .intro
theorem tw7333638012423156088 : True := .intro
theorem tw6269353652694989755 : True := .intro
theorem tw1217550261463625515 : True := .intro
theorem tw9214729512884799534 : True := .intro
theorem tw228358772590645274 : True := .intro
theorem tw12957424560319963906 : True := .intro
theorem tw11489267536057847744 : True := .intro
theorem tw2105672240034919125 : True := .intro
theorem tw10873870150193494608 : True := .intro
theorem tw11022913376850555115 : True := .intro
theorem tw18314955153411218098 : True := .intro
theorem tw1880431808055169241 : True := .intro
theorem tw6504239892930288735 : True := .intro
theorem tw15223446463129539882 : True := .intro
theorem tw5355468119468258952 : True := .intro
theorem tw9931053350840200464 : True := .intro
theorem tw14822150974385518994 : True := .intro
theorem tw54880824588973999 : True := .intro
theorem tw16331134339402249363 : True := .intro
theorem tw13142802720871132641 : True := .intro
theorem tw3944806584536641393 : True := .intro
theorem tw12789997811775821740 : True := .intro
theorem tw1334058187072700854 : True := .intro
theorem tw14231090939851431552 : True := .intro
theorem tw5584513511304094026 : True := .intro
theorem tw6651274325243416883 : True := .intro
theorem tw13060274250841663734 : True := .intro
theorem tw8520670761548920190 : True := .intro
theorem tw12598637161673630329 : True := .intro
theorem tw17024033003711727573 : True := .intro
theorem tw14210286191093211396 : True := .intro
theorem tw3194121305636295857 : True := .intro
theorem tw5446167022008382774 : True := .intro
theorem tw23875745941329432 : True := .intro
theorem tw13908553609105686910 : True := .intro
theorem tw6055372483929116342 : True := .intro
theorem tw8236155605714986291 : True := .intro
theorem tw5990654648602553159 : True := .intro
theorem tw7971153428702635707 : True := .intro
theorem tw7827755785204055486 : True := .intro
theorem tw7747493301024382518 : True := .intro
theorem tw9105484051909718406 : True := .intro
theorem tw7851991155086402510 : True := .intro
theorem tw15917253428100141505 : True := .intro
theorem tw2190702796216561965 : True := .intro
theorem tw1306354184602755454 : True := .intro
theorem tw2470637308471956891 : True := .intro
theorem tw7755776029686221948 : True := .intro
theorem tw13256177653390350931 : True := .intro
theorem tw16223418735962917387 : True := .intro
theorem tw5949806169616946993 : True := .intro
theorem tw17526738798955660049 : True := .intro
theorem tw2360292828683886097 : True := .intro
theorem tw13643466729748343312 : True := .intro
theorem tw17329890916940878910 : True := .intro
theorem tw18183204043326486842 : True := .intro
theorem tw15214776831638678610 : True := .intro
theorem tw7157804838809940926 : True := .intro
theorem tw14894782547377046258 : True := .intro
theorem tw13141936854665864364 : True := .intro
theorem tw16421890411674258355 : True := .intro
theorem tw6355267935682696429 : True := .intro
theorem tw4502193255425352557 : True := .intro
theorem tw15059005998063089761 : True := .intro
theorem tw11058416311321706415 : True := .intro
theorem tw6325391634764051663 : True := .intro
theorem tw4540896029727506865 : True := .intro
theorem tw6749816458539586304 : True := .intro
theorem tw7565729673141335246 : True := .intro
theorem tw6304135567344624305 : True := .intro
theorem tw10677049224540988293 : True := .intro
theorem tw13357698857151356953 : True := .intro
theorem tw10755609231941229877 : True := .intro
theorem tw15125408737047291306 : True := .intro
theorem tw10561905262005015667 : True := .intro
theorem tw8017932210551011633 : True := .intro
theorem tw12212942626036155086 : True := .intro
theorem tw11604659875819387335 : True := .intro
theorem tw2347967192450569394 : True := .intro
theorem tw1203530847237681144 : True := .intro
theorem tw12890328390560868683 : True := .intro
theorem tw12634516233979974606 : True := .intro
theorem tw427364198988338485 : True := .intro
theorem tw951436999906510752 : True := .intro
theorem tw13838024040918021789 : True := .intro
theorem tw6634988406307632008 : True := .intro
theorem tw17831029084213192020 : True := .intro
theorem tw17983061564326422947 : True := .intro
theorem tw12735354167378710307 : True := .intro
theorem tw6834912919424164931 : True := .intro
theorem tw793355610232911883 : True := .intro
theorem tw6966918078594505259 : True := .intro
theorem tw16091811688020932654 : True := .intro
theorem tw7000273650088792855 : True := .intro
theorem tw12204893515611118100 : True := .intro
theorem tw7008121470813395134 : True := .intro
theorem tw7198886719408542726 : True := .intro
theorem tw13929759341941839557 : True := .intro
theorem tw16090762433199467634 : True := .intro
theorem tw8522061323364174984 : True := .intro
theorem tw7848728193321492473 : True := .intro
theorem tw6044005234275466691 : True := .intro
theorem tw16729521249158885465 : True := .intro
theorem tw13753098043308699102 : True := .intro
theorem tw16086844906033961544 : True := .intro
theorem tw822481573664620645 : True := .intro
theorem tw6289010474324839863 : True := .intro
theorem tw1651927154823168102 : True := .intro
theorem tw1592169504788880700 : True := .intro
theorem tw12134438625281384883 : True := .intro
theorem tw16145187785140346287 : True := .intro
theorem tw16176695254601534259 : True := .intro
theorem tw6529516654059576739 : True := .intro
theorem tw8193264285190634177 : True := .intro
theorem tw7158149229990988013 : True := .intro
theorem tw10422025789813663975 : True := .intro
theorem tw16698312723579685697 : True := .intro
theorem tw15472733894620243427 : True := .intro
theorem tw12727830400408006 : True := .intro
theorem tw17486384896793918259 : True := .intro
theorem tw15991470841775192711 : True := .intro
theorem tw7305720611708051572 : True := .intro
theorem tw17019203708491737285 : True := .intro
theorem tw2827967435491952430 : True := .intro
theorem tw11050618706749809107 : True := .intro
theorem tw964873332654129590 : True := .intro
theorem tw3707677729563568175 : True := .intro
theorem tw11797638665580280927 : True := .intro
theorem tw13290413317812133389 : True := .intro
theorem tw1088780710550158693 : True := .intro
theorem tw1302812155153438562 : True := .intro
theorem tw5847309454795472211 : True := .intro
theorem tw5566395978376250975 : True := .intro
theorem tw1083187471814364712 : True := .intro
theorem tw3870336500664673088 : True := .intro
theorem tw5606531774792751946 : True := .intro
theorem tw7717758679471001078 : True := .intro
theorem tw4022090760464499483 : True := .intro
theorem tw18002804184281815590 : True := .intro
theorem tw3161362559864821605 : True := .intro
theorem tw1899772013956480713 : True := .intro
theorem tw7769747471829469313 : True := .intro
theorem tw14294941664488135576 : True := .intro
theorem tw4105252546529796879 : True := .intro
theorem tw17934258546773885625 : True := .intro
theorem tw13572055215305118530 : True := .intro
theorem tw10589515956998311656 : True := .intro
theorem tw10279852056769825857 : True := .intro
theorem tw15938261749841238336 : True := .intro
theorem tw4686916419238842002 : True := .intro
theorem tw13329239880584061680 : True := .intro
theorem tw12472625865684314950 : True := .intro
theorem tw2559580247079993195 : True := .intro
theorem tw11279858755650616682 : True := .intro
theorem tw5945469569427738134 : True := .intro
theorem tw17939724895132233548 : True := .intro
theorem tw15194723124139593215 : True := .intro
theorem tw6247302213243062688 : True := .intro
theorem tw8413912758281105649 : True := .intro
theorem tw10781677396570766912 : True := .intro
theorem tw11745310832285721908 : True := .intro
theorem tw11832921588958995946 : True := .intro
theorem tw7000730079173649933 : True := .intro
theorem tw2801146951407476153 : True := .intro
theorem tw8540994909207852588 : True := .intro
theorem tw15050315067136013626 : True := .intro
theorem tw13565569684683856198 : True := .intro
theorem tw5435258090754355718 : True := .intro
theorem tw12292714665559146885 : True := .intro
theorem tw14355796623149198751 : True := .intro
theorem tw6948995781690546395 : True := .intro
theorem tw6364217859182100557 : True := .intro
theorem tw13704414506317914067 : True := .intro
theorem tw14639839215028259533 : True := .intro
theorem tw2887568438758896841 : True := .intro
theorem tw8947275754239401622 : True := .intro
theorem tw5753606555407437815 : True := .intro
theorem tw11157399167381680506 : True := .intro
theorem tw1802921937439329487 : True := .intro
theorem tw4447389459694687865 : True := .intro
theorem tw7745313922980715500 : True := .intro
theorem tw3026222511530625384 : True := .intro
theorem tw16013886001037842213 : True := .intro
theorem tw15166277929109034903 : True := .intro
theorem tw9760053530549628594 : True := .intro
theorem tw7954894676870252212 : True := .intro
theorem tw4498108440609920950 : True := .intro
theorem tw5544525664793794210 : True := .intro
theorem tw15299643986302596881 : True := .intro
theorem tw10939074911939873691 : True := .intro
theorem tw9070294951984331373 : True := .intro
theorem tw11026358252320380049 : True := .intro
theorem tw16082401148085430634 : True := .intro
theorem tw831028378758992968 : True := .intro
theorem tw4813178950643235469 : True := .intro
theorem tw2561118675052980948 : True := .intro
theorem tw2338009924982681091 : True := .intro
theorem tw15047887638097378156 : True := .intro
theorem tw1388113810827667200 : True := .intro
theorem tw5342957412757069565 : True := .intro
theorem tw877774916555137 : True := .intro
theorem tw1037942842508393161 : True := .intro
theorem tw11194787465783744539 : True := .intro
theorem tw2071176952368299314 : True := .intro
theorem tw17705830358908164508 : True := .intro
theorem tw6714425091000522638 : True := .intro
theorem tw12561469339290736908 : True := .intro
theorem tw9750181567154001797 : True := .intro
theorem tw1437550483764428955 : True := .intro
theorem tw7092344092386930675 : True := .intro
theorem tw18313708747400411455 : True := .intro
theorem tw15036927984029767993 : True := .intro
theorem tw5828567911171328337 : True := .intro
theorem tw7713002834362925961 : True := .intro
theorem tw695008220988239272 : True := .intro
theorem tw16363453913563298740 : True := .intro
theorem tw12414475524251179177 : True := .intro
theorem tw1598708914677722136 : True := .intro
theorem tw7483748744884525822 : True := .intro
theorem tw9622310914476724792 : True := .intro
theorem tw7056061496123456218 : True := .intro
theorem tw9563879266739836498 : True := .intro
theorem tw11728984227032268166 : True := .intro
theorem tw1650893892825760805 : True := .intro
theorem tw8256620112590964805 : True := .intro
theorem tw7375397209467985570 : True := .intro
theorem tw13333910841996212498 : True := .intro
theorem tw16578086503216624444 : True := .intro
theorem tw17681573329666499332 : True := .intro
theorem tw1409484187484863257 : True := .intro
theorem tw8359281183312624063 : True := .intro
theorem tw1151223389732664144 : True := .intro
theorem tw9841349929822357135 : True := .intro
theorem tw10347916469963985844 : True := .intro
theorem tw13723592526200143840 : True := .intro
theorem tw3471862813984632245 : True := .intro
theorem tw9831020126988820273 : True := .intro
theorem tw15040741302692521005 : True := .intro
theorem tw14313339768467168595 : True := .intro
theorem tw4973809554036186332 : True := .intro
theorem tw6239968400628976003 : True := .intro
theorem tw2330576869475166406 : True := .intro
theorem tw11970279490187821658 : True := .intro
theorem tw8294796621967707233 : True := .intro
theorem tw1965837217429253753 : True := .intro
theorem tw15840220294726909939 : True := .intro
theorem tw9919328777613362251 : True := .intro
theorem tw10594472756593807190 : True := .intro
theorem tw6005675473684006187 : True := .intro
theorem tw2589997899751133603 : True := .intro
theorem tw11325475326627090066 : True := .intro
theorem tw7330817727225107045 : True := .intro
theorem tw10734524111197479217 : True := .intro
theorem tw3619010065125530719 : True := .intro
theorem tw16606918857964829107 : True := .intro
theorem tw17637215753196770624 : True := .intro
theorem tw4127823340692326954 : True := .intro
theorem tw17678403807442063013 : True := .intro
theorem tw3558721767101936030 : True := .intro
theorem tw5601755051399690139 : True := .intro
theorem tw4658963375482142732 : True := .intro
theorem tw897409472702376784 : True := .intro
theorem tw953639652244508621 : True := .intro
theorem tw6273505739359039544 : True := .intro
theorem tw7247837219505475104 : True := .intro
theorem tw11381774409957481538 : True := .intro
theorem tw4332924793606482035 : True := .intro
theorem tw14112750783564866785 : True := .intro
theorem tw6468241020408645992 : True := .intro
theorem tw8475716065908722404 : True := .intro
theorem tw2248771271386419938 : True := .intro
theorem tw13130477677552490919 : True := .intro
theorem tw4359911964921863838 : True := .intro
theorem tw12908199843665666115 : True := .intro
theorem tw1993225195294556483 : True := .intro
theorem tw16050797197874817210 : True := .intro
theorem tw12240030191956178201 : True := .intro
theorem tw8645283011729322237 : True := .intro
theorem tw769563721958580985 : True := .intro
theorem tw18023787775430034173 : True := .intro
theorem tw2269114030453762321 : True := .intro
theorem tw7708716991838778801 : True := .intro
theorem tw6446141528357897644 : True := .intro
theorem tw6478033510149197668 : True := .intro
theorem tw3350362417793895990 : True := .intro
theorem tw2472668757066549069 : True := .intro
theorem tw16085391597364482217 : True := .intro
theorem tw3727675966207085439 : True := .intro
theorem tw878013552947871940 : True := .intro
theorem tw17002270109292883569 : True := .intro
theorem tw6236960600068998757 : True := .intro
theorem tw11168197206366190866 : True := .intro
theorem tw5226050704019016836 : True := .intro
theorem tw2539761363142422210 : True := .intro
theorem tw2136911252079107831 : True := .intro
theorem tw7203208796708353722 : True := .intro
theorem tw7784322162230724730 : True := .intro
theorem tw6683367270092423106 : True := .intro
theorem tw12764427839719624320 : True := .intro
theorem tw14947723900414627077 : True := .intro
theorem tw7868936569952141649 : True := .intro
theorem tw14326684955693409482 : True := .intro
theorem tw5095422281283266864 : True := .intro
theorem tw3791313260927726979 : True := .intro
theorem tw2186923869225724834 : True := .intro
theorem tw13394954550578283726 : True := .intro
theorem tw169617083570272291 : True := .intro
theorem tw15651464711244571640 : True := .intro
theorem tw11499330242965335019 : True := .intro
theorem tw14176742431638343358 : True := .intro
theorem tw7465966848332460673 : True := .intro
theorem tw12153690223634415398 : True := .intro
theorem tw13401897032297752853 : True := .intro
theorem tw17174749514793556856 : True := .intro
theorem tw4141910149650212450 : True := .intro
theorem tw9359769419995880173 : True := .intro
theorem tw5368943256403816290 : True := .intro
theorem tw7137524539007597074 : True := .intro
theorem tw14627643167389994382 : True := .intro
theorem tw14689988833156455623 : True := .intro
theorem tw12071693069572345539 : True := .intro
theorem tw11905683906123034607 : True := .intro
theorem tw11580558589366062725 : True := .intro
theorem tw15405222705152122975 : True := .intro
theorem tw1976249896770934958 : True := .intro
theorem tw4650415069050703783 : True := .intro
theorem tw8654087456999127476 : True := .intro
theorem tw17687384992958004235 : True := .intro
theorem tw349498439954952257 : True := .intro
theorem tw4341589454180873729 : True := .intro
theorem tw12285956362205560931 : True := .intro
theorem tw7048448670860957371 : True := .intro
theorem tw1962143505287301389 : True := .intro
theorem tw13876731068807404641 : True := .intro
theorem tw771706487383738396 : True := .intro
theorem tw8194380202696100383 : True := .intro
theorem tw790267481752899062 : True := .intro
theorem tw15596842723337801398 : True := .intro
theorem tw13893188709899634247 : True := .intro
theorem tw5299576072590090176 : True := .intro
theorem tw17444694854791145175 : True := .intro
theorem tw10873218958307969513 : True := .intro
theorem tw2151184098869693596 : True := .intro
theorem tw16300129102637677044 : True := .intro
theorem tw3991079235356537017 : True := .intro
theorem tw10671800953049429032 : True := .intro
theorem tw5892817379222915028 : True := .intro
theorem tw2149789582872995269 : True := .intro
theorem tw12315960019489013118 : True := .intro
theorem tw3647545475966213294 : True := .intro
theorem tw3326092440941255358 : True := .intro
theorem tw4832346073667681649 : True := .intro
theorem tw440972077340215370 : True := .intro
theorem tw4410898078270024731 : True := .intro
theorem tw16648998759028047375 : True := .intro
theorem tw7571642091065419212 : True := .intro
theorem tw13317925843669245078 : True := .intro
theorem tw14238353852565788692 : True := .intro
theorem tw6844345755138144533 : True := .intro
theorem tw17259866087600354215 : True := .intro
theorem tw16607179266932106289 : True := .intro
theorem tw2408283275710513090 : True := .intro
theorem tw10927502474068269364 : True := .intro
theorem tw15526318276443574211 : True := .intro
theorem tw1237554478442815806 : True := .intro
theorem tw11077907165046378892 : True := .intro
theorem tw4838589393067348334 : True := .intro
theorem tw4634780502186894204 : True := .intro
theorem tw7591127219987421689 : True := .intro
theorem tw16607307262711383027 : True := .intro
theorem tw17595360385932942697 : True := .intro
theorem tw12636147458367166356 : True := .intro
theorem tw9762666739137695156 : True := .intro
theorem tw9914514588995261748 : True := .intro
theorem tw16981062279096620449 : True := .intro
theorem tw4270174439438412070 : True := .intro
theorem tw6779498975893361125 : True := .intro
theorem tw4300855444741863853 : True := .intro
theorem tw3559122708163518975 : True := .intro
theorem tw11643517548111635701 : True := .intro
theorem tw6648470996761595971 : True := .intro
theorem tw16402612707842807344 : True := .intro
theorem tw16971300508637762068 : True := .intro
theorem tw6639998471623570680 : True := .intro
theorem tw7466622545760246877 : True := .intro
theorem tw10917125518766163558 : True := .intro
theorem tw11709341700014099456 : True := .intro
theorem tw14357662260863479393 : True := .intro
theorem tw12783730454171734816 : True := .intro
theorem tw15672643644827277759 : True := .intro
theorem tw7373858399504913113 : True := .intro
theorem tw1326159650440641884 : True := .intro
theorem tw5323684245456077231 : True := .intro
theorem tw15372763400932284919 : True := .intro
theorem tw10296857047513024621 : True := .intro
theorem tw18237104139250795176 : True := .intro
theorem tw13185898361939999084 : True := .intro
theorem tw13307551269125655400 : True := .intro
theorem tw14077834686243887160 : True := .intro
theorem tw13242711274647106381 : True := .intro
theorem tw16705241004261943230 : True := .intro
theorem tw15572941443089386092 : True := .intro
theorem tw11361544573274163696 : True := .intro
theorem tw2053292965859672855 : True := .intro
theorem tw2757874678943627951 : True := .intro
theorem tw1523098759166606656 : True := .intro
theorem tw4760657572410792450 : True := .intro
theorem tw4667555614264525271 : True := .intro
theorem tw9335229613057333585 : True := .intro
theorem tw10328602807367843978 : True := .intro
theorem tw6642949055600463187 : True := .intro
theorem tw10991894348696712523 : True := .intro
theorem tw4928387234780271694 : True := .intro
theorem tw2108767653885735059 : True := .intro
theorem tw3230403695328652840 : True := .intro
theorem tw9335832163157973137 : True := .intro
theorem tw2403135772106089869 : True := .intro
theorem tw206387586560959698 : True := .intro
theorem tw6580316078841437116 : True := .intro
theorem tw11026909348220694322 : True := .intro
theorem tw12966610638653774128 : True := .intro
theorem tw14113303375318198713 : True := .intro
theorem tw2404909952863450242 : True := .intro
theorem tw4256377505664330169 : True := .intro
theorem tw1164636912908047166 : True := .intro
theorem tw18066405155794596024 : True := .intro
theorem tw12319368222138950021 : True := .intro
theorem tw11655159045988839748 : True := .intro
theorem tw9994473938572714959 : True := .intro
theorem tw9601263976250879506 : True := .intro
theorem tw3955083006953988428 : True := .intro
theorem tw15898249130577628953 : True := .intro
theorem tw17716292526184748327 : True := .intro
theorem tw12317505871108133764 : True := .intro
theorem tw10130274781940459582 : True := .intro
theorem tw15154971947161174803 : True := .intro
theorem tw1022259793668756224 : True := .intro
theorem tw7196264436769642477 : True := .intro
theorem tw781543072908269668 : True := .intro
theorem tw7339480660933006944 : True := .intro
theorem tw8138776665307256792 : True := .intro
theorem tw3814172574450246481 : True := .intro
theorem tw16050497771686191393 : True := .intro
theorem tw16775538313208354028 : True := .intro
theorem tw9135343350354852308 : True := .intro
theorem tw17756052678483118786 : True := .intro
theorem tw17166359231121400916 : True := .intro
theorem tw9744240494685784475 : True := .intro
theorem tw13298859473351409422 : True := .intro
theorem tw4980349479428968180 : True := .intro
theorem tw1927977959732126034 : True := .intro
theorem tw7339745581218240033 : True := .intro
theorem tw10760409230673938270 : True := .intro
theorem tw8078995503963096675 : True := .intro
theorem tw5256000531328504986 : True := .intro
theorem tw3902760009541001415 : True := .intro
theorem tw5284569761301576990 : True := .intro
theorem tw15305213207778763112 : True := .intro
theorem tw5220387160413053832 : True := .intro
theorem tw13768697501962539278 : True := .intro
theorem tw970071797950891093 : True := .intro
theorem tw13891788371038096138 : True := .intro
theorem tw12884710406362634100 : True := .intro
theorem tw14601916721865126024 : True := .intro
theorem tw5273062605864989218 : True := .intro
theorem tw6620118052780508282 : True := .intro
theorem tw15525838533527566365 : True := .intro
theorem tw2184707792478812889 : True := .intro
theorem tw6181064929105441267 : True := .intro
theorem tw5839771128601998803 : True := .intro
theorem tw4738482805657689587 : True := .intro
theorem tw18041104502478142712 : True := .intro
theorem tw1111763884576549601 : True := .intro
theorem tw2199623971040097632 : True := .intro
theorem tw930034888478769989 : True := .intro
theorem tw16784803476103447872 : True := .intro
theorem tw5909309931421122792 : True := .intro
theorem tw16481030549163931550 : True := .intro
theorem tw16307097331144926712 : True := .intro
theorem tw2756068282702146474 : True := .intro
theorem tw17215876608798389327 : True := .intro
theorem tw5831068036784713526 : True := .intro
theorem tw14795283206164147366 : True := .intro
theorem tw3948841657671778716 : True := .intro
theorem tw16976002956022483455 : True := .intro
theorem tw7523979310411611936 : True := .intro
theorem tw11647097415116696094 : True := .intro
theorem tw17363782243172901627 : True := .intro
theorem tw6781829610923698057 : True := .intro
theorem tw13607637642601323388 : True := .intro
theorem tw8502306580142085218 : True := .intro
theorem tw7722578816650357199 : True := .intro
theorem tw11318323662766880575 : True := .intro
theorem tw8536847458597628228 : True := .intro
theorem tw8401991008050005370 : True := .intro
theorem tw705221996830963838 : True := .intro
theorem tw17739783690714541235 : True := .intro
theorem tw12222656052291816304 : True := .intro
theorem tw1712874277288442641 : True := .intro
theorem tw6895917297666767390 : True := .intro
theorem tw10966514929754858493 : True := .intro
theorem tw9415445885453136152 : True := .intro
theorem tw3192540786581272778 : True := .intro
theorem tw10636917683852261718 : True := .intro
theorem tw6269281362249615455 : True := .intro
theorem tw6908213920786667845 : True := .intro
theorem tw4942659649485595211 : True := .intro
theorem tw17130306556288506030 : True := .intro
theorem tw7933452383678726779 : True := .intro
theorem tw6253998545711629029 : True := .intro
theorem tw5458810394286004385 : True := .intro
theorem tw8150503368614538915 : True := .intro
theorem tw6796339288026618825 : True := .intro
theorem tw1784268917160628889 : True := .intro
theorem tw706311281235377163 : True := .intro
theorem tw11784987940589696652 : True := .intro
theorem tw15908768456156630590 : True := .intro
theorem tw3171471979506755661 : True := .intro
theorem tw16395397309182606568 : True := .intro
theorem tw13649369850032579633 : True := .intro
theorem tw4673427720605961317 : True := .intro
theorem tw4223311360786698649 : True := .intro
theorem tw12111839040937510412 : True := .intro
theorem tw8179525229270832912 : True := .intro
theorem tw536358941590547836 : True := .intro
theorem tw5062446981678956782 : True := .intro
theorem tw8313433116661398196 : True := .intro
theorem tw3291485938452537335 : True := .intro
theorem tw235934285751661990 : True := .intro
theorem tw7128796920194735017 : True := .intro
theorem tw10277011502524411811 : True := .intro
theorem tw3870939945704207896 : True := .intro
theorem tw3762693622923756828 : True := .intro
theorem tw3913843983911418612 : True := .intro
theorem tw13104367570284168404 : True := .intro
theorem tw5255811672885918444 : True := .intro
theorem tw10092299275171276766 : True := .intro
theorem tw11411041623727275347 : True := .intro
theorem tw8228952146592288289 : True := .intro
theorem tw610475705834574408 : True := .intro
theorem tw5772751592035582927 : True := .intro
theorem tw16982942633725856510 : True := .intro
theorem tw4495487909272111137 : True := .intro
theorem tw12944548314576050997 : True := .intro
theorem tw7751148558767668096 : True := .intro
theorem tw10913981327922924343 : True := .intro
theorem tw291278053123376841 : True := .intro
theorem tw4985102849638438218 : True := .intro
theorem tw1191423154868492446 : True := .intro
theorem tw1425945306566809191 : True := .intro
theorem tw643658250419881863 : True := .intro
theorem tw952832688220485139 : True := .intro
theorem tw835083277922615983 : True := .intro
theorem tw17694852616048968806 : True := .intro
theorem tw894141152301849994 : True := .intro
theorem tw9098672321403060693 : True := .intro
theorem tw5796778353776289728 : True := .intro
theorem tw3816286953822233392 : True := .intro
theorem tw7993500703380997463 : True := .intro
theorem tw9976346081719317129 : True := .intro
theorem tw9932184489594714245 : True := .intro
theorem tw1975566816074178287 : True := .intro
theorem tw2335608068954527586 : True := .intro
theorem tw4999511976272965857 : True := .intro
theorem tw11351166177251644859 : True := .intro
theorem tw10574991719769770129 : True := .intro
theorem tw17832072770439470403 : True := .intro
theorem tw5811924292764229135 : True := .intro
theorem tw1905965584790405317 : True := .intro
theorem tw14221825249321135688 : True := .intro
theorem tw12496190668957604861 : True := .intro
theorem tw1933223155375660006 : True := .intro
theorem tw4444868033462619344 : True := .intro
theorem tw2240719573997383241 : True := .intro
theorem tw4325001230757530976 : True := .intro
theorem tw3351569089136760705 : True := .intro
theorem tw7467383178528452627 : True := .intro
theorem tw16087368471279226427 : True := .intro
theorem tw2906714686447648843 : True := .intro
theorem tw15420649359902329908 : True := .intro
theorem tw6256257299905093386 : True := .intro
theorem tw11240234873048086921 : True := .intro
theorem tw15514095108906630607 : True := .intro
theorem tw15044411531434841964 : True := .intro
theorem tw7511716266355090022 : True := .intro
theorem tw11950072484484854626 : True := .intro
theorem tw17975264540680749710 : True := .intro
theorem tw14373693238723898129 : True := .intro
theorem tw3843137360609008437 : True := .intro
theorem tw4160765570591634524 : True := .intro
theorem tw13293896215620791128 : True := .intro
theorem tw7819717361303016180 : True := .intro
theorem tw18148680379746712255 : True := .intro
theorem tw2650552758137398602 : True := .intro
theorem tw13211021024020174613 : True := .intro
theorem tw12274536150332872228 : True := .intro
theorem tw5531366425804272019 : True := .intro
theorem tw4510562686331796342 : True := .intro
theorem tw13333927697515384525 : True := .intro
theorem tw6143591547344151411 : True := .intro
theorem tw3323854098230497105 : True := .intro
theorem tw14848799241966090442 : True := .intro
theorem tw6517034192517289604 : True := .intro
theorem tw7697894583213861888 : True := .intro
theorem tw1748293708006122629 : True := .intro
theorem tw15245553389173765317 : True := .intro
theorem tw11750503784813871201 : True := .intro
theorem tw2169869325094884056 : True := .intro
theorem tw11614699636701776717 : True := .intro
theorem tw15633297591655559628 : True := .intro
theorem tw16936942000465698014 : True := .intro
theorem tw6447210461496037592 : True := .intro
theorem tw3815155551002879849 : True := .intro
theorem tw8425323851782180852 : True := .intro
theorem tw3843586124627337230 : True := .intro
theorem tw16404681478366225356 : True := .intro
theorem tw6882035195392057218 : True := .intro
theorem tw16276597184614093960 : True := .intro
theorem tw4813357931390338836 : True := .intro
theorem tw7047606075012780665 : True := .intro
theorem tw2213327954974682295 : True := .intro
theorem tw2943900646556472766 : True := .intro
theorem tw2961834906540049706 : True := .intro
theorem tw10483726829627879904 : True := .intro
theorem tw3714181786695510314 : True := .intro
theorem tw8841226745027667440 : True := .intro
theorem tw7509932059887785643 : True := .intro
theorem tw3149456211940072768 : True := .intro
theorem tw3136069248391475451 : True := .intro
theorem tw1451420324968541585 : True := .intro
theorem tw16171777517249340828 : True := .intro
theorem tw11003416518833481798 : True := .intro
theorem tw6013679562313101056 : True := .intro
theorem tw16755307102162579865 : True := .intro
theorem tw1503466561665402314 : True := .intro
theorem tw7941178482761071868 : True := .intro
theorem tw5825514292218133711 : True := .intro
theorem tw11011891337112187932 : True := .intro
theorem tw8456829969915240793 : True := .intro
theorem tw1025927485967941713 : True := .intro
theorem tw6369319152213264390 : True := .intro
theorem tw6654007177193653593 : True := .intro
theorem tw13020178070153671371 : True := .intro
theorem tw2430682164619106408 : True := .intro
theorem tw14152687406272551298 : True := .intro
theorem tw8833717413272333267 : True := .intro
theorem tw7443316566398956471 : True := .intro
theorem tw6162584302242537965 : True := .intro
theorem tw11655411185071907391 : True := .intro
theorem tw10121172460494366345 : True := .intro
theorem tw18337644507244727767 : True := .intro
theorem tw12081210985085364927 : True := .intro
theorem tw7041887240021281769 : True := .intro
theorem tw16526491989661380449 : True := .intro
theorem tw2831507603245583667 : True := .intro
theorem tw12610012234876498737 : True := .intro
theorem tw8004984238575611444 : True := .intro
theorem tw10642469067867936579 : True := .intro
theorem tw8832934462228488447 : True := .intro
theorem tw1055649557094305077 : True := .intro
theorem tw1771745393928676654 : True := .intro
theorem tw13401614895919520969 : True := .intro
theorem tw16482947802616575533 : True := .intro
theorem tw6442273349787235680 : True := .intro
theorem tw8617827147044595790 : True := .intro
theorem tw4865273518531936627 : True := .intro
theorem tw1795277642535173506 : True := .intro
theorem tw8441541932990537232 : True := .intro
theorem tw118561331063819104 : True := .intro
theorem tw12799310774190076488 : True := .intro
theorem tw7015867709139242771 : True := .intro
theorem tw12226924123258382125 : True := .intro
theorem tw15904205379830930072 : True := .intro
theorem tw5997001944655294905 : True := .intro
theorem tw13524943716354455910 : True := .intro
theorem tw13684018561025812429 : True := .intro
theorem tw6110083008938016222 : True := .intro
theorem tw5539204697990058892 : True := .intro
theorem tw6638064309625959519 : True := .intro
theorem tw6641141253832134911 : True := .intro
theorem tw17844720727948262098 : True := .intro
theorem tw17898314731982605826 : True := .intro
theorem tw5525839775794277153 : True := .intro
theorem tw7531746278461529885 : True := .intro
theorem tw13262988488595564913 : True := .intro
theorem tw783720957528997391 : True := .intro
theorem tw1014884792251467013 : True := .intro
theorem tw4452288208699079291 : True := .intro
theorem tw9084833270344346188 : True := .intro
theorem tw627637771748682829 : True := .intro
theorem tw7983019225945153586 : True := .intro
theorem tw8404620182547953416 : True := .intro
theorem tw8756438722427625954 : True := .intro
theorem tw14776498986697656547 : True := .intro
theorem tw4241564664826086673 : True := .intro
theorem tw6038582418952480103 : True := .intro
theorem tw6136701361015480396 : True := .intro
theorem tw793550879797901355 : True := .intro
theorem tw3901551075041214512 : True := .intro
theorem tw7948784937667720312 : True := .intro
theorem tw4937479720765746294 : True := .intro
theorem tw10550701659787759782 : True := .intro
theorem tw8588503230344798845 : True := .intro
theorem tw16818519691062543839 : True := .intro
theorem tw12679572020009938227 : True := .intro
theorem tw5091422844386614816 : True := .intro
theorem tw1235530334891602476 : True := .intro
theorem tw5442152923762137729 : True := .intro
theorem tw5813428333364710903 : True := .intro
theorem tw7442485082576369921 : True := .intro
theorem tw1206115737258378820 : True := .intro
theorem tw15438448953477425845 : True := .intro
theorem tw10949355059005529103 : True := .intro
theorem tw17810145842477449434 : True := .intro
theorem tw7657780314005541613 : True := .intro
theorem tw15383029472990534819 : True := .intro
theorem tw6777556943774933952 : True := .intro
theorem tw5423236088839622974 : True := .intro
theorem tw13488731773992638677 : True := .intro
theorem tw8387036156768004605 : True := .intro
theorem tw17772026560563351730 : True := .intro
theorem tw1537543045872174609 : True := .intro
theorem tw13498115077781870364 : True := .intro
theorem tw3384170643814044469 : True := .intro
theorem tw15122142229802651173 : True := .intro
theorem tw8511370401995446930 : True := .intro
theorem tw2613426490607467031 : True := .intro
theorem tw16278811725281227909 : True := .intro
theorem tw2585998824955530117 : True := .intro
theorem tw1161884373927370436 : True := .intro
theorem tw14260475105945918071 : True := .intro
theorem tw4696344408439834928 : True := .intro
theorem tw11531577209203151839 : True := .intro
theorem tw10598659502908418071 : True := .intro
theorem tw17486309460723461952 : True := .intro
theorem tw16414450166999470310 : True := .intro
theorem tw18053761018327500191 : True := .intro
theorem tw7034558551513855309 : True := .intro
theorem tw15222393577886938704 : True := .intro
theorem tw7630479652742610291 : True := .intro
theorem tw5837031844241625222 : True := .intro
theorem tw10260031962506046791 : True := .intro
theorem tw813247324457347978 : True := .intro
theorem tw8046683206324697353 : True := .intro
theorem tw2982255447833159251 : True := .intro
theorem tw4781696536933326243 : True := .intro
theorem tw1026224289911639239 : True := .intro
theorem tw6169313816202551960 : True := .intro
theorem tw4912019912757524327 : True := .intro
theorem tw27477070406823872 : True := .intro
theorem tw10978432015836986108 : True := .intro
theorem tw2663922164451237512 : True := .intro
theorem tw6411038039585962352 : True := .intro
theorem tw7753965959911479624 : True := .intro
theorem tw8185702172859515700 : True := .intro
theorem tw15559749865765548365 : True := .intro
theorem tw2828875776270000602 : True := .intro
theorem tw17911795302370047083 : True := .intro
theorem tw16364113349997088651 : True := .intro
theorem tw8906970780410385083 : True := .intro
theorem tw5194020463861530600 : True := .intro
theorem tw17133190069456986273 : True := .intro
theorem tw5085526143678610559 : True := .intro
theorem tw7209368619491750713 : True := .intro
theorem tw13802628505580309566 : True := .intro
theorem tw11550516169922757282 : True := .intro
theorem tw14508849936526571278 : True := .intro
theorem tw11676987365309579630 : True := .intro
theorem tw3592669065067420669 : True := .intro
theorem tw13300226034297896345 : True := .intro
theorem tw14919592389406623744 : True := .intro
theorem tw15480907483593573931 : True := .intro
theorem tw18011268173008771122 : True := .intro
theorem tw5773991007851174695 : True := .intro
theorem tw14200244565572100675 : True := .intro
theorem tw6504831916515757346 : True := .intro
theorem tw6713343536740822887 : True := .intro
theorem tw5495593431903817299 : True := .intro
theorem tw3523090287749462978 : True := .intro
theorem tw1575022843492104506 : True := .intro
theorem tw16575123288334655473 : True := .intro
theorem tw8987711812396029770 : True := .intro
theorem tw16428267514777324134 : True := .intro
theorem tw8670643160316951773 : True := .intro
theorem tw9041998003627895246 : True := .intro
theorem tw16694615055965649495 : True := .intro
theorem tw7892501712840707227 : True := .intro
theorem tw8981737227394404964 : True := .intro
theorem tw948553406138149145 : True := .intro
theorem tw8233156896221925767 : True := .intro
theorem tw18337925921661155915 : True := .intro
theorem tw14563227438638560302 : True := .intro
theorem tw865191885415308664 : True := .intro
theorem tw15309330655196830711 : True := .intro
theorem tw2995420157998244847 : True := .intro
theorem tw11957508358009021094 : True := .intro
theorem tw9551513431260133635 : True := .intro
theorem tw16123573366602525354 : True := .intro
theorem tw14261395211127466622 : True := .intro
theorem tw15511240183310655595 : True := .intro
theorem tw2443671883472438145 : True := .intro
theorem tw8097989862097581389 : True := .intro
theorem tw1962547651601844083 : True := .intro
theorem tw5453333267988782967 : True := .intro
theorem tw3991495501460746279 : True := .intro
theorem tw15991874303091137171 : True := .intro
theorem tw18373754192597603004 : True := .intro
theorem tw7718963646545994127 : True := .intro
theorem tw11288458105252637931 : True := .intro
theorem tw9662411599467435212 : True := .intro
theorem tw5701952936612042846 : True := .intro
theorem tw7436207448372266944 : True := .intro
theorem tw2421102171547383232 : True := .intro
theorem tw6558923672101174102 : True := .intro
theorem tw16721333676314136285 : True := .intro
theorem tw15941764020709767439 : True := .intro
theorem tw11408600502381235806 : True := .intro
theorem tw12489421452501578809 : True := .intro
theorem tw3750472790721990596 : True := .intro
theorem tw18310072623280600805 : True := .intro
theorem tw18340708888903358158 : True := .intro
theorem tw17603286392806101399 : True := .intro
theorem tw15815338315970662871 : True := .intro
theorem tw15361147006722935501 : True := .intro
theorem tw13476320044750267535 : True := .intro
theorem tw14716940937854645887 : True := .intro
theorem tw18364631757159870260 : True := .intro
theorem tw4838040625956372718 : True := .intro
theorem tw6072863618947392286 : True := .intro
theorem tw3309396471989051651 : True := .intro
theorem tw9827797298444425650 : True := .intro
theorem tw13130446865000317443 : True := .intro
theorem tw7322042800139573880 : True := .intro
theorem tw13681188870259295911 : True := .intro
theorem tw156545175481340178 : True := .intro
theorem tw8942023109988334265 : True := .intro
theorem tw9310702823903448746 : True := .intro
theorem tw15422071209410873318 : True := .intro
theorem tw9353369676205670816 : True := .intro
theorem tw11672288923930652550 : True := .intro
theorem tw11637411909247226824 : True := .intro
theorem tw6354269355817687500 : True := .intro
theorem tw13560358143785170423 : True := .intro
theorem tw16188515289800159332 : True := .intro
theorem tw12126107790102775328 : True := .intro
theorem tw66622153457778599 : True := .intro
theorem tw12684020710830409273 : True := .intro
theorem tw7910755457576155460 : True := .intro
theorem tw9284788562075132999 : True := .intro
theorem tw14099007247631742776 : True := .intro
theorem tw13508917541765070148 : True := .intro
theorem tw2026364133147420907 : True := .intro
theorem tw6565106074274199747 : True := .intro
theorem tw1236206473262503850 : True := .intro
theorem tw11680595258961489765 : True := .intro
theorem tw12174350980615178363 : True := .intro
theorem tw14249696010660977514 : True := .intro
theorem tw18331427946536779232 : True := .intro
theorem tw17171039304857926997 : True := .intro
theorem tw15203204910198496279 : True := .intro
theorem tw3257670673334581314 : True := .intro
theorem tw16722071497132621896 : True := .intro
theorem tw7478145389206237127 : True := .intro
theorem tw3355502270060758543 : True := .intro
theorem tw17227539023175621368 : True := .intro
theorem tw18173673254221135433 : True := .intro
theorem tw2970295207369273852 : True := .intro
theorem tw1119297842380747426 : True := .intro
theorem tw4998833138339291312 : True := .intro
theorem tw18166790738407413084 : True := .intro
theorem tw16692043172877877614 : True := .intro
theorem tw10639201837791897968 : True := .intro
theorem tw4920883007103121310 : True := .intro
theorem tw2898902335016979530 : True := .intro
theorem tw12234212531635024873 : True := .intro
theorem tw12354478192482714247 : True := .intro
theorem tw10390412053645508613 : True := .intro
theorem tw17276558945855551533 : True := .intro
theorem tw3453603364014493682 : True := .intro
theorem tw11702453919698281336 : True := .intro
theorem tw12591946667763294461 : True := .intro
theorem tw10836181543021354558 : True := .intro
theorem tw14066230750240480440 : True := .intro
theorem tw14557526402799136233 : True := .intro
theorem tw11621967243750501155 : True := .intro
theorem tw3437475720966351407 : True := .intro
theorem tw7448191861253897435 : True := .intro
theorem tw11394526152276969591 : True := .intro
theorem tw8221714772440910778 : True := .intro
theorem tw10132119940633922774 : True := .intro
theorem tw12781773069452890991 : True := .intro
theorem tw7140814067333567220 : True := .intro
theorem tw8327279520552491562 : True := .intro
theorem tw15412996814747032336 : True := .intro
theorem tw2836064714139742454 : True := .intro
theorem tw578794460249168146 : True := .intro
theorem tw1698245448345555150 : True := .intro
theorem tw12947474971806804545 : True := .intro
theorem tw1243428414260606901 : True := .intro
theorem tw1362509064660532522 : True := .intro
theorem tw2511095914466769073 : True := .intro
theorem tw4473511983425530310 : True := .intro
theorem tw403878446366634824 : True := .intro
theorem tw13495499861550769391 : True := .intro
theorem tw13389112978440947176 : True := .intro
theorem tw4957029715329513247 : True := .intro
theorem tw391045213451902030 : True := .intro
theorem tw5246270736215619723 : True := .intro
theorem tw15916605526997199352 : True := .intro
theorem tw15144023894082189821 : True := .intro
theorem tw15380441234806195041 : True := .intro
theorem tw3808134010855305345 : True := .intro
theorem tw4721049645690673148 : True := .intro
theorem tw15073426390945079873 : True := .intro
theorem tw17839344078141711493 : True := .intro
theorem tw12493916004513280585 : True := .intro
theorem tw9917289192622253479 : True := .intro
theorem tw1171490844328233194 : True := .intro
theorem tw8173966803151986882 : True := .intro
theorem tw7101293831343376093 : True := .intro
theorem tw5629682549987917276 : True := .intro
theorem tw10788081324835773381 : True := .intro
theorem tw2425501663803948166 : True := .intro
theorem tw13606942982766109436 : True := .intro
theorem tw9235630279486831792 : True := .intro
theorem tw15362543592378992898 : True := .intro
theorem tw1651158574950577952 : True := .intro
theorem tw10415708351587830142 : True := .intro
theorem tw1494037407052883644 : True := .intro
theorem tw4786321695869616474 : True := .intro
theorem tw14258475533108023835 : True := .intro
theorem tw3751393968928729159 : True := .intro
theorem tw12112281002235135477 : True := .intro
theorem tw2469298092555601103 : True := .intro
theorem tw10792509690434990610 : True := .intro
theorem tw13599469227143083799 : True := .intro
theorem tw12446984508037482179 : True := .intro
theorem tw5862446046360285935 : True := .intro
theorem tw17519694236319628482 : True := .intro
theorem tw18234854049164396475 : True := .intro
theorem tw17195474754887101848 : True := .intro
theorem tw11503765394531786320 : True := .intro
theorem tw11965736342159944553 : True := .intro
theorem tw9947804877298695754 : True := .intro
theorem tw10432487700136464159 : True := .intro
theorem tw2953212395962291641 : True := .intro
theorem tw14922139493137366517 : True := .intro
theorem tw13604823058065502687 : True := .intro
theorem tw8135965538307212982 : True := .intro
theorem tw3112031379044972997 : True := .intro
theorem tw11000072478437082930 : True := .intro
theorem tw4154133024569779418 : True := .intro
theorem tw2339765741058030186 : True := .intro
theorem tw638812912262038451 : True := .intro
theorem tw14551382606217749788 : True := .intro
theorem tw11597288396430448066 : True := .intro
theorem tw10603022481956671192 : True := .intro
theorem tw14628302978876650752 : True := .intro
theorem tw18441768499607287673 : True := .intro
theorem tw17269529548459836179 : True := .intro
theorem tw11014438064970144216 : True := .intro
theorem tw1412533568587540635 : True := .intro
theorem tw13336344358382702600 : True := .intro
theorem tw7936246560589959358 : True := .intro
theorem tw14335345818565439842 : True := .intro
theorem tw61926857707641430 : True := .intro
theorem tw3502710206897396867 : True := .intro
theorem tw3825650750303832922 : True := .intro
theorem tw17668868401335415084 : True := .intro
theorem tw9867018214181130782 : True := .intro
theorem tw13488612428327878845 : True := .intro
theorem tw6419891131547692162 : True := .intro
theorem tw16472683832140769315 : True := .intro
theorem tw5323606996917181144 : True := .intro
theorem tw5635520485724899924 : True := .intro
theorem tw4888879343427168820 : True := .intro
theorem tw1834594833797895248 : True := .intro
theorem tw11681803833982612042 : True := .intro
theorem tw1953380999072830343 : True := .intro
theorem tw17002915159927865706 : True := .intro
theorem tw1575044849561590394 : True := .intro
theorem tw11437136736154660437 : True := .intro
theorem tw7642112792034377499 : True := .intro
theorem tw5925107934926206923 : True := .intro
theorem tw1360698183165300069 : True := .intro
theorem tw17899605404194686868 : True := .intro
theorem tw10011817559410799230 : True := .intro
theorem tw13597256296013124529 : True := .intro
theorem tw617113185556450235 : True := .intro
theorem tw15920839319207380928 : True := .intro
theorem tw12108486101535708127 : True := .intro
theorem tw15233420938999120186 : True := .intro
theorem tw16531544484521687897 : True := .intro
theorem tw7831295592929789458 : True := .intro
theorem tw12974765266148376274 : True := .intro
theorem tw14679368707667434038 : True := .intro
theorem tw14666948269853631263 : True := .intro
theorem tw15695913959876119837 : True := .intro
theorem tw15108789901920139244 : True := .intro
theorem tw16353243578386026212 : True := .intro
theorem tw18023029693982744540 : True := .intro
theorem tw2367085316145131114 : True := .intro
theorem tw15236643408421413547 : True := .intro
theorem tw12209730853481461851 : True := .intro
theorem tw1381165285622367719 : True := .intro
theorem tw424720116564181354 : True := .intro
theorem tw5213120685385126321 : True := .intro
theorem tw3046198288571310002 : True := .intro
theorem tw9546441305546386664 : True := .intro
theorem tw15246486384072444600 : True := .intro
theorem tw14327216511351501322 : True := .intro
theorem tw14578927355313538030 : True := .intro
theorem tw14011928273749385974 : True := .intro
theorem tw1964794386193806781 : True := .intro
theorem tw15158813287472234297 : True := .intro
theorem tw7352095856960123002 : True := .intro
theorem tw15448876658185198495 : True := .intro
theorem tw11909925503221838095 : True := .intro
theorem tw6499881458916513946 : True := .intro
theorem tw17272265693007306541 : True := .intro
theorem tw16673735108860587608 : True := .intro
theorem tw9545387212355224626 : True := .intro
theorem tw3820760921834163057 : True := .intro
theorem tw14953278509539151446 : True := .intro
theorem tw4299582546406426567 : True := .intro
theorem tw7156489659930865776 : True := .intro
theorem tw6745185915275793243 : True := .intro
theorem tw15884445107507550017 : True := .intro
theorem tw5958331034539850749 : True := .intro
theorem tw7195747341683220536 : True := .intro
theorem tw15425376643565991074 : True := .intro
theorem tw7276180822213075003 : True := .intro
theorem tw2625265430321673730 : True := .intro
theorem tw14408157198336262483 : True := .intro
theorem tw11518263396993101563 : True := .intro
theorem tw118664727444001449 : True := .intro
theorem tw1063070404234485291 : True := .intro
theorem tw8207183359437080584 : True := .intro
theorem tw7489046713662390227 : True := .intro
theorem tw13195746690305980553 : True := .intro
theorem tw4612564132022973058 : True := .intro
theorem tw12506044672036953560 : True := .intro
theorem tw6664033992846873606 : True := .intro
theorem tw6154034729175619220 : True := .intro
theorem tw8346204819028070763 : True := .intro
theorem tw4869124807835768459 : True := .intro
theorem tw7890006883313754136 : True := .intro
theorem tw11144429938228836875 : True := .intro
theorem tw8013756072976040069 : True := .intro
theorem tw17495453776743123998 : True := .intro
theorem tw14522229838576218516 : True := .intro
theorem tw17548670141076734390 : True := .intro
theorem tw6509167588025611296 : True := .intro
theorem tw10978745497858144372 : True := .intro
theorem tw17545261780172838372 : True := .intro
theorem tw7748204751347697249 : True := .intro
theorem tw786693499224536157 : True := .intro
theorem tw11735635640478037098 : True := .intro
theorem tw1539755674952943072 : True := .intro
theorem tw14583601082721200980 : True := .intro
theorem tw16560921380734518644 : True := .intro
theorem tw9352072679730596691 : True := .intro
theorem tw2163736559508572144 : True := .intro
theorem tw14404440484770770966 : True := .intro
theorem tw12282470620269287344 : True := .intro
theorem tw5653626980987313186 : True := .intro
theorem tw4460321157655167449 : True := .intro
theorem tw13938261789714340563 : True := .intro
theorem tw4489288353837698522 : True := .intro
theorem tw1266120225757366242 : True := .intro
theorem tw8922045646359477056 : True := .intro
theorem tw4560800178282178304 : True := .intro
theorem tw2517790524043106042 : True := .intro
theorem tw7561132392160782831 : True := .intro
theorem tw4258975876600009083 : True := .intro
theorem tw10440345438824327759 : True := .intro
theorem tw4435763879737801250 : True := .intro
theorem tw3793935087735339272 : True := .intro
theorem tw7737555508579321812 : True := .intro
theorem tw12059681930329409962 : True := .intro
theorem tw13003465773355378508 : True := .intro
theorem tw3552315202446911603 : True := .intro
theorem tw17794122690217864085 : True := .intro
theorem tw9692579402727393726 : True := .intro
theorem tw571030130536602237 : True := .intro
theorem tw10332695584839358363 : True := .intro
theorem tw10697836350924552032 : True := .intro
theorem tw2017530282111280330 : True := .intro
theorem tw8305980745531235178 : True := .intro
theorem tw17143054922988856559 : True := .intro
theorem tw10462570154178611270 : True := .intro
theorem tw4407347682390192627 : True := .intro
theorem tw13196500910207448204 : True := .intro
theorem tw18114126656677894648 : True := .intro
theorem tw13565507674487029907 : True := .intro
theorem tw6237630348097114449 : True := .intro
theorem tw331261649326967836 : True := .intro
theorem tw3021441188537036754 : True := .intro
theorem tw5166196892675822959 : True := .intro
theorem tw17185515350309348487 : True := .intro
theorem tw11524417114645622945 : True := .intro
theorem tw17810515072893029259 : True := .intro
theorem tw14164083997749643030 : True := .intro
theorem tw15084325103578928889 : True := .intro
theorem tw11086729906048952445 : True := .intro
theorem tw6935180610202124474 : True := .intro
theorem tw16362087447431149136 : True := .intro
theorem tw3681853902437030437 : True := .intro
theorem tw11939706151518492124 : True := .intro
theorem tw4202706111534722999 : True := .intro
theorem tw16838675553926126945 : True := .intro
theorem tw5593860852311200252 : True := .intro
theorem tw12841284680032277944 : True := .intro
theorem tw14793344056221762800 : True := .intro
theorem tw26904660916626442 : True := .intro
theorem tw7967030375456937857 : True := .intro
theorem tw10338848411834266294 : True := .intro
theorem tw13850773743525324879 : True := .intro
theorem tw15951418231261786068 : True := .intro
theorem tw12546869672680850219 : True := .intro
theorem tw9915554700220493127 : True := .intro
theorem tw8607516352748913268 : True := .intro
theorem tw6992506940764045813 : True := .intro
theorem tw3430138546258107160 : True := .intro
theorem tw13513685441441575733 : True := .intro
theorem tw17021339784047219568 : True := .intro
theorem tw15587236481930265744 : True := .intro
theorem tw9835916401971322196 : True := .intro
theorem tw6902788134174677931 : True := .intro
theorem tw5080214408047207574 : True := .intro
theorem tw6924955243984464877 : True := .intro
theorem tw5092837471165307673 : True := .intro
theorem tw988299206829744733 : True := .intro
theorem tw14611868613687123725 : True := .intro
theorem tw13835981426697306520 : True := .intro
theorem tw10213441067263565102 : True := .intro
theorem tw5402250183054243254 : True := .intro
theorem tw10457969706160487929 : True := .intro
theorem tw9687484846125999278 : True := .intro
theorem tw1609992976008686186 : True := .intro
theorem tw696763110944273532 : True := .intro
theorem tw2468428192651763004 : True := .intro
theorem tw3181715611380847740 : True := .intro
theorem tw1709496043990500223 : True := .intro
theorem tw3544356635521303488 : True := .intro
theorem tw8866860296501517178 : True := .intro
theorem tw242009196883597125 : True := .intro
theorem tw4680407450455952500 : True := .intro
theorem tw17527587898769673866 : True := .intro
theorem tw7838508628571313079 : True := .intro
theorem tw3639868164520452186 : True := .intro
theorem tw14580688159955435426 : True := .intro
theorem tw9822010084670462854 : True := .intro
theorem tw16063347717230088569 : True := .intro
theorem tw12927672297283420770 : True := .intro
theorem tw1520845087796148884 : True := .intro
theorem tw17152442377001549690 : True := .intro
theorem tw17326410022011092198 : True := .intro
theorem tw2960253145311449977 : True := .intro
theorem tw5373793274653257417 : True := .intro
theorem tw4133734152663847692 : True := .intro
theorem tw14464339697759642736 : True := .intro
theorem tw15918361218166418763 : True := .intro
theorem tw7294164437523545542 : True := .intro
theorem tw17431073625138219914 : True := .intro
theorem tw11780794622681335486 : True := .intro
theorem tw11000939965433506233 : True := .intro
theorem tw1206993611887630635 : True := .intro
theorem tw9965722183477683929 : True := .intro
theorem tw9453055818858509297 : True := .intro
theorem tw155564524161539934 : True := .intro
theorem tw8739331232175379489 : True := .intro
theorem tw9461353329046037574 : True := .intro
theorem tw1598060983725322589 : True := .intro
theorem tw2675033292279909247 : True := .intro
theorem tw18350335776105485357 : True := .intro
theorem tw4276713948925183924 : True := .intro
theorem tw4887831504033436323 : True := .intro
theorem tw11757014484536435578 : True := .intro
theorem tw9671949537020553704 : True := .intro
theorem tw1718939442543089916 : True := .intro
theorem tw1862897192856781144 : True := .intro
theorem tw3861786501254877594 : True := .intro
theorem tw14734716854217517348 : True := .intro
theorem tw4714983979743565722 : True := .intro
theorem tw7250114003274904518 : True := .intro
theorem tw1526454550953262563 : True := .intro
theorem tw11418835779081571574 : True := .intro
theorem tw15987058150751659039 : True := .intro
theorem tw9125206145281254597 : True := .intro
theorem tw11177575079158775284 : True := .intro
theorem tw18027467058151028430 : True := .intro
theorem tw7866122209836446515 : True := .intro
theorem tw366290395078510798 : True := .intro
theorem tw1284842043207227911 : True := .intro
theorem tw17956626496693185595 : True := .intro
theorem tw15578720952693484769 : True := .intro
theorem tw17589760417020411907 : True := .intro
theorem tw12426151108514945148 : True := .intro
theorem tw4111510366607020470 : True := .intro
theorem tw4793417228352491078 : True := .intro
theorem tw11053119078249925716 : True := .intro
theorem tw2858052727460906500 : True := .intro
theorem tw17073159090868838388 : True := .intro
theorem tw11298110555403934820 : True := .intro
theorem tw433829276863628897 : True := .intro
theorem tw17679162424267413223 : True := .intro
theorem tw15804678928946087827 : True := .intro
theorem tw5340701441774354680 : True := .intro
theorem tw8898594698118437429 : True := .intro
theorem tw1364388087713498499 : True := .intro
theorem tw1529066358105123900 : True := .intro
theorem tw15220309775768079010 : True := .intro
theorem tw34793368028634552 : True := .intro
theorem tw4796775438486348516 : True := .intro
theorem tw9838935450621090942 : True := .intro
theorem tw18042823670342899105 : True := .intro
theorem tw12056179696575140432 : True := .intro
theorem tw6041526106712358231 : True := .intro
theorem tw4844312037809939419 : True := .intro
theorem tw5246648458820126784 : True := .intro
theorem tw9118639782964039024 : True := .intro
theorem tw8469414627769388263 : True := .intro
theorem tw16348438251276296897 : True := .intro
theorem tw6344152493490946257 : True := .intro
theorem tw13229800430452557397 : True := .intro
theorem tw4933567580365702053 : True := .intro
theorem tw10182885833633747992 : True := .intro
theorem tw12330550842084468917 : True := .intro
theorem tw13743308430555385048 : True := .intro
theorem tw2796204315672883516 : True := .intro
theorem tw12686079196918214535 : True := .intro
theorem tw5702625802788390334 : True := .intro
theorem tw3835537810397152950 : True := .intro
theorem tw5790223724409224527 : True := .intro
theorem tw13229117748974544302 : True := .intro
theorem tw17436490584636338737 : True := .intro
theorem tw903422988911277800 : True := .intro
theorem tw6947934134087083364 : True := .intro
theorem tw14993340670962103210 : True := .intro
theorem tw11655253910129235218 : True := .intro
theorem tw18341237081306693953 : True := .intro
theorem tw14043053771985822325 : True := .intro
theorem tw9002573626596160159 : True := .intro
theorem tw14196331568851433350 : True := .intro
theorem tw7407864990272536810 : True := .intro
theorem tw10365462126364125484 : True := .intro
theorem tw6056497759991384670 : True := .intro
theorem tw3502197174228920281 : True := .intro
theorem tw6982736720956939517 : True := .intro
theorem tw3463449746369698222 : True := .intro
theorem tw12532224019729200888 : True := .intro
theorem tw7077816690958901443 : True := .intro
theorem tw12576811763277743225 : True := .intro
theorem tw10948633829319227578 : True := .intro
theorem tw12242821889400449111 : True := .intro
theorem tw2188381533780518155 : True := .intro
theorem tw18131707749162109426 : True := .intro
theorem tw1476378423160905630 : True := .intro
theorem tw3859037071157278762 : True := .intro
theorem tw2553806041299012055 : True := .intro
theorem tw8539637512027801888 : True := .intro
theorem tw16205134303231769110 : True := .intro
theorem tw623613246774394913 : True := .intro
theorem tw1529609131908183595 : True := .intro
theorem tw9945570616699096598 : True := .intro
theorem tw14425359776684912085 : True := .intro
theorem tw14146569373391809300 : True := .intro
theorem tw8788281877424915084 : True := .intro
theorem tw7004898956948923008 : True := .intro
theorem tw14252047642712989267 : True := .intro
theorem tw14049417183767176289 : True := .intro
theorem tw9772556137248818396 : True := .intro
theorem tw17180770400594062232 : True := .intro
theorem tw6405357710037588410 : True := .intro
theorem tw10040082748278779902 : True := .intro
theorem tw14971694923156852774 : True := .intro
theorem tw799240567379085340 : True := .intro
theorem tw7009522664757750020 : True := .intro
theorem tw7474995440525348440 : True := .intro
theorem tw16335451844188574450 : True := .intro
theorem tw15454559060583204146 : True := .intro
theorem tw6439508899442411241 : True := .intro
theorem tw15416923580047537335 : True := .intro
theorem tw10829090010845239613 : True := .intro
theorem tw12687685628693488676 : True := .intro
theorem tw11861070323545839433 : True := .intro
theorem tw6514889403207438094 : True := .intro
theorem tw14752351880773446148 : True := .intro
theorem tw690779092794882894 : True := .intro
theorem tw15506359665231124992 : True := .intro
theorem tw16960749045912123264 : True := .intro
theorem tw1595029981102645760 : True := .intro
theorem tw1297693478424140973 : True := .intro
theorem tw15493109196354201188 : True := .intro
theorem tw4211867652666810169 : True := .intro
theorem tw8665628480583248891 : True := .intro
theorem tw11942248968079613945 : True := .intro
theorem tw11476870425502884435 : True := .intro
theorem tw249863020681950307 : True := .intro
theorem tw9669377677110317031 : True := .intro
theorem tw12200636268542983362 : True := .intro
theorem tw4018253325781165911 : True := .intro
theorem tw3981403582183069786 : True := .intro
theorem tw7129856952386957315 : True := .intro
theorem tw15211721945339655743 : True := .intro
theorem tw17612330881806173822 : True := .intro
theorem tw17971439156214734536 : True := .intro
theorem tw12513902731611196059 : True := .intro
theorem tw14950863830570843511 : True := .intro
theorem tw10000914423430830993 : True := .intro
theorem tw5734022664839475680 : True := .intro
theorem tw10679803895505035649 : True := .intro
theorem tw8373511791488356056 : True := .intro
theorem tw1633158541352343357 : True := .intro
theorem tw6723991595533204973 : True := .intro
theorem tw9084335110974991951 : True := .intro
theorem tw1360801823099301399 : True := .intro
theorem tw14903096784106451722 : True := .intro
theorem tw13448336541604774565 : True := .intro
theorem tw16683873679851939984 : True := .intro
theorem tw3200602362071465292 : True := .intro
theorem tw15359067254724800516 : True := .intro
theorem tw15833055594997939511 : True := .intro
theorem tw13014350363500890526 : True := .intro
theorem tw17687280988977936469 : True := .intro
theorem tw984354848895145234 : True := .intro
theorem tw2542235060157584759 : True := .intro
theorem tw17037422297373008396 : True := .intro
theorem tw12486270233477850617 : True := .intro
theorem tw16997778237297048970 : True := .intro
theorem tw1967915963640307637 : True := .intro
theorem tw17024675853223810778 : True := .intro
theorem tw13023547615579326163 : True := .intro
theorem tw6768680639277382022 : True := .intro
theorem tw15561348686197590014 : True := .intro
theorem tw17432089683868700988 : True := .intro
theorem tw320319944928067972 : True := .intro
theorem tw17654034366958085792 : True := .intro
theorem tw13454298960727300408 : True := .intro
theorem tw17837785906689522539 : True := .intro
theorem tw16490955748584886160 : True := .intro
theorem tw10261752647878458001 : True := .intro
theorem tw10344088236762251480 : True := .intro
theorem tw3450947876627980955 : True := .intro
theorem tw15822385804911758629 : True := .intro
theorem tw7405175723190389160 : True := .intro
theorem tw451045270219702245 : True := .intro
theorem tw6470336149268618014 : True := .intro
theorem tw14448690435379660395 : True := .intro
theorem tw16798593980152738218 : True := .intro
theorem tw11117359464544140050 : True := .intro
theorem tw5994402685825816023 : True := .intro
theorem tw11696222097505700623 : True := .intro
theorem tw965994576212341700 : True := .intro
theorem tw350256961546207908 : True := .intro
theorem tw12403163744330376519 : True := .intro
theorem tw17099738353472437958 : True := .intro
theorem tw1532314884725569584 : True := .intro
theorem tw2753559884191447380 : True := .intro
theorem tw10160700540795726510 : True := .intro
theorem tw8115190849308403726 : True := .intro
theorem tw16207852436936877078 : True := .intro
theorem tw1211294661660194258 : True := .intro
theorem tw5627485369118829659 : True := .intro
theorem tw8770445260471055332 : True := .intro
theorem tw7517988794149430652 : True := .intro
theorem tw4523494721802578709 : True := .intro
theorem tw9030736778439764382 : True := .intro
theorem tw6759156037000088853 : True := .intro
theorem tw11981296281904794535 : True := .intro
theorem tw4913262653071260542 : True := .intro
theorem tw3836158301521513127 : True := .intro
theorem tw6812677317012065257 : True := .intro
theorem tw15763256828435165389 : True := .intro
theorem tw4329390732936146338 : True := .intro
theorem tw14892774545963758018 : True := .intro
theorem tw7792475917901368868 : True := .intro
theorem tw2133092742147639208 : True := .intro
theorem tw11307472368488674285 : True := .intro
theorem tw10940884542863559629 : True := .intro
theorem tw16248152498893817779 : True := .intro
theorem tw1230219100741526557 : True := .intro
theorem tw7942610414507328749 : True := .intro
theorem tw11525067642083226274 : True := .intro
theorem tw14346782807189086836 : True := .intro
theorem tw12544217560810692901 : True := .intro
theorem tw6332375222299867243 : True := .intro
theorem tw3017443365476561991 : True := .intro
theorem tw11659081278286475816 : True := .intro
theorem tw16819172927232246729 : True := .intro
theorem tw2266598120460454411 : True := .intro
theorem tw14383748109613343201 : True := .intro
theorem tw18047368219525266722 : True := .intro
theorem tw2338457141420162573 : True := .intro
theorem tw12960790470837718080 : True := .intro
theorem tw7807698858941525705 : True := .intro
theorem tw5201858836472658775 : True := .intro
theorem tw13296220035131805279 : True := .intro
theorem tw8334576709563965016 : True := .intro
theorem tw6135302942640984509 : True := .intro
theorem tw5173532157872635234 : True := .intro
theorem tw9652839803517719086 : True := .intro
theorem tw1350795547121399645 : True := .intro
theorem tw7597981925091511150 : True := .intro
theorem tw6594746370335702411 : True := .intro
theorem tw13056619443124925082 : True := .intro
theorem tw7748812283082600108 : True := .intro
theorem tw13663864813357267949 : True := .intro
theorem tw10141776762857766740 : True := .intro
theorem tw10164213634025479267 : True := .intro
theorem tw8879036469714347206 : True := .intro
theorem tw16656267144934059268 : True := .intro
theorem tw3331766345336298107 : True := .intro
theorem tw11896986227173795563 : True := .intro
theorem tw4349803296664296068 : True := .intro
theorem tw5371729436737629362 : True := .intro
theorem tw17487833837731873468 : True := .intro
theorem tw13432182617382572431 : True := .intro
theorem tw120498924822627207 : True := .intro
theorem tw6990177948485184312 : True := .intro
theorem tw6480719227102110666 : True := .intro
theorem tw13212609184285330800 : True := .intro
theorem tw14360209392378035886 : True := .intro
theorem tw18379609470104911050 : True := .intro
theorem tw3931626340658706504 : True := .intro
theorem tw9540898725122159897 : True := .intro
theorem tw979410653814378476 : True := .intro
theorem tw7119672663244933551 : True := .intro
theorem tw8052767848178538950 : True := .intro
theorem tw6878085027964092808 : True := .intro
theorem tw5137902011536464622 : True := .intro
theorem tw618979088632569817 : True := .intro
theorem tw16174737190109830485 : True := .intro
theorem tw1602233667792788645 : True := .intro
theorem tw1061478672991315762 : True := .intro
theorem tw7925382259310154910 : True := .intro
theorem tw8868295810696446463 : True := .intro
theorem tw2160217535316449513 : True := .intro
theorem tw8443055894761016124 : True := .intro
theorem tw4184549760839803643 : True := .intro
theorem tw4163366142505215743 : True := .intro
theorem tw11852272970331150158 : True := .intro
theorem tw2004917954422870402 : True := .intro
theorem tw1871521890900118078 : True := .intro
theorem tw5005061630616613468 : True := .intro
theorem tw7657967051614761193 : True := .intro
theorem tw1305082599693332029 : True := .intro
theorem tw17937091594913090472 : True := .intro
theorem tw12366694170151213243 : True := .intro
theorem tw5776703910525153025 : True := .intro
theorem tw6333068136164767993 : True := .intro
theorem tw9279788923062545697 : True := .intro
theorem tw15502376711420097127 : True := .intro
theorem tw7816924207311399824 : True := .intro
theorem tw8996378259330645452 : True := .intro
theorem tw4940604622826018565 : True := .intro
theorem tw2139352736729946525 : True := .intro
theorem tw6234980381040343806 : True := .intro
theorem tw58811086145863791 : True := .intro
theorem tw3716067324848829595 : True := .intro
theorem tw5678535910104297663 : True := .intro
theorem tw12175229288100439756 : True := .intro
theorem tw13604150835270649840 : True := .intro
theorem tw909693225479104017 : True := .intro
theorem tw3400511380592978874 : True := .intro
theorem tw3708673834669267555 : True := .intro
theorem tw11604193304085803132 : True := .intro
theorem tw8803175380632266219 : True := .intro
theorem tw710333993629708654 : True := .intro
theorem tw11317878221825017470 : True := .intro
theorem tw8960398752025983630 : True := .intro
theorem tw6412249694454312569 : True := .intro
theorem tw7205497594001070848 : True := .intro
theorem tw9843492891806628315 : True := .intro
theorem tw10293749416627076873 : True := .intro
theorem tw13105692216992540800 : True := .intro
theorem tw15250845514411301679 : True := .intro
theorem tw227788027459562322 : True := .intro
theorem tw10894947761868036377 : True := .intro
theorem tw14790291992147856611 : True := .intro
theorem tw5663926011173241595 : True := .intro
theorem tw15911863168519270963 : True := .intro
theorem tw13952495377077706473 : True := .intro
theorem tw8719644975823055472 : True := .intro
theorem tw7852041943566688410 : True := .intro
theorem tw830042229788337132 : True := .intro
theorem tw12186780397994665254 : True := .intro
theorem tw4009869528189395195 : True := .intro
theorem tw7276259519535277238 : True := .intro
theorem tw5861435152545963131 : True := .intro
theorem tw2873163519053849487 : True := .intro
theorem tw9189796538840791125 : True := .intro
theorem tw1803926505918110754 : True := .intro
theorem tw3944956595364650593 : True := .intro
theorem tw4907309888785422342 : True := .intro
theorem tw11514055727306091957 : True := .intro
theorem tw15065865407382792722 : True := .intro
theorem tw17302838848965886651 : True := .intro
theorem tw10977220936742268168 : True := .intro
theorem tw2221698132554435321 : True := .intro
theorem tw9870847685127805165 : True := .intro
theorem tw3085275938934677328 : True := .intro
theorem tw6279128823920162651 : True := .intro
theorem tw16375606177822979818 : True := .intro
theorem tw1928271460482829081 : True := .intro
theorem tw11603514916841820018 : True := .intro
theorem tw5797088718507314930 : True := .intro
theorem tw5625140021011014917 : True := .intro
theorem tw12648916369784714481 : True := .intro
theorem tw8131287228565708660 : True := .intro
theorem tw8256258771787521358 : True := .intro
theorem tw1630882736984431176 : True := .intro
theorem tw16514781905720332689 : True := .intro
theorem tw9046624882716867309 : True := .intro
theorem tw12964038000812522181 : True := .intro
theorem tw17550830055406887429 : True := .intro
theorem tw13293960468336483888 : True := .intro
theorem tw10778947918539040125 : True := .intro
theorem tw14868526666529400707 : True := .intro
theorem tw12332597759731461154 : True := .intro
theorem tw14264702277196690459 : True := .intro
theorem tw11575853124210086295 : True := .intro
theorem tw12268530956481321821 : True := .intro
theorem tw13091179152202263900 : True := .intro
theorem tw15260228171012567092 : True := .intro
theorem tw13952121530874517190 : True := .intro
theorem tw11892464497549107586 : True := .intro
theorem tw16178795624271440137 : True := .intro
theorem tw2758963849402567477 : True := .intro
theorem tw2283339866129682732 : True := .intro
theorem tw14995071531600772512 : True := .intro
theorem tw12346843519894994767 : True := .intro
theorem tw6547849316113659838 : True := .intro
theorem tw3315776966127361703 : True := .intro
theorem tw15014041152345875189 : True := .intro
theorem tw11881289990633470784 : True := .intro
theorem tw18007517012759031921 : True := .intro
theorem tw16422026499237399227 : True := .intro
theorem tw13762994441186826436 : True := .intro
theorem tw18258708093288740296 : True := .intro
theorem tw17274948214026130343 : True := .intro
theorem tw17686612341780518570 : True := .intro
theorem tw9703359281539512736 : True := .intro
theorem tw3550875855167580717 : True := .intro
theorem tw3900009788160355102 : True := .intro
theorem tw2343707285340606096 : True := .intro
theorem tw1339383140393411701 : True := .intro
theorem tw9668322605738829215 : True := .intro
theorem tw132610846115756593 : True := .intro
theorem tw2736615788704859070 : True := .intro
theorem tw10540098272866558253 : True := .intro
theorem tw1948249634513777900 : True := .intro
theorem tw1549378866906973053 : True := .intro
theorem tw12871928650458132816 : True := .intro
theorem tw8976824915133594551 : True := .intro
theorem tw8351931395505437973 : True := .intro
theorem tw9473326003451072892 : True := .intro
theorem tw11535453639480992002 : True := .intro
theorem tw1213065747156021816 : True := .intro
theorem tw6716023729650284404 : True := .intro
theorem tw10015060593380166130 : True := .intro
theorem tw9319322581571290024 : True := .intro
theorem tw47038653818237827 : True := .intro
theorem tw411434663243063473 : True := .intro
theorem tw13288828368655219122 : True := .intro
theorem tw10620962053532654972 : True := .intro
theorem tw16466713647672123224 : True := .intro
theorem tw11913497970578754211 : True := .intro
theorem tw11452798050952088296 : True := .intro
theorem tw14624819615434312208 : True := .intro
theorem tw5148148815062351159 : True := .intro
theorem tw12085510462282915858 : True := .intro
theorem tw13093421516985539798 : True := .intro
theorem tw4469965031374994753 : True := .intro
theorem tw17692199383964296171 : True := .intro
theorem tw15712510722001839895 : True := .intro
theorem tw7296111122260526089 : True := .intro
theorem tw2688210177608832296 : True := .intro
theorem tw14856655778586501137 : True := .intro
theorem tw1566630494618343959 : True := .intro
theorem tw6008672062390006485 : True := .intro
theorem tw14842631722965861612 : True := .intro
theorem tw336532776407497947 : True := .intro
theorem tw4653707456919201840 : True := .intro
theorem tw15579010186082029503 : True := .intro
theorem tw5951165627416689847 : True := .intro
theorem tw17267067338858036637 : True := .intro
theorem tw12464530390050458033 : True := .intro
theorem tw10111682143291412844 : True := .intro
theorem tw10033003031169729031 : True := .intro
theorem tw6882609070872751128 : True := .intro
theorem tw8537998123764487311 : True := .intro
theorem tw10271895536874251199 : True := .intro
theorem tw9511950756895451022 : True := .intro
theorem tw8870567226270564352 : True := .intro
theorem tw8688666338453694462 : True := .intro
theorem tw2596382171648863575 : True := .intro
theorem tw5549270385237790088 : True := .intro
theorem tw14720419272525941745 : True := .intro
theorem tw5914811981229149746 : True := .intro
theorem tw5974868191934696954 : True := .intro
theorem tw8438921006075678385 : True := .intro
theorem tw15904028006483513122 : True := .intro
theorem tw16652792036277234614 : True := .intro
theorem tw8632875196226245384 : True := .intro
theorem tw3525457442152526472 : True := .intro
theorem tw18254058355251288752 : True := .intro
theorem tw7139721153409260438 : True := .intro
theorem tw15379568368148651500 : True := .intro
theorem tw16833224971058967258 : True := .intro
theorem tw1484319056352570028 : True := .intro
theorem tw17799801222398900671 : True := .intro
theorem tw18261182836957540598 : True := .intro
theorem tw3666086989895310292 : True := .intro
theorem tw16026236533661843781 : True := .intro
theorem tw16141511145340387903 : True := .intro
theorem tw7333402880392881867 : True := .intro
theorem tw18029555081722841102 : True := .intro
theorem tw3773239484582501047 : True := .intro
theorem tw2375671113042868677 : True := .intro
theorem tw1845849740965879616 : True := .intro
theorem tw376167588213618642 : True := .intro
theorem tw10071874359943180507 : True := .intro
theorem tw5149576183483650264 : True := .intro
theorem tw7215175167331161131 : True := .intro
theorem tw15234425928708554103 : True := .intro
theorem tw3964760381086703160 : True := .intro
theorem tw12677503041809284034 : True := .intro
theorem tw15611420998295361039 : True := .intro
theorem tw16179377357872380107 : True := .intro
theorem tw14701341361569091255 : True := .intro
theorem tw4652772563475692300 : True := .intro
theorem tw7239820118217156320 : True := .intro
theorem tw11106234706052785657 : True := .intro
theorem tw11965933164774684351 : True := .intro
theorem tw10595665724537370213 : True := .intro
theorem tw18446190797288507569 : True := .intro
theorem tw5843634577370285496 : True := .intro
theorem tw15487739535323819145 : True := .intro
theorem tw16140584691674175761 : True := .intro
theorem tw5782603855015140714 : True := .intro
theorem tw14923146709585018883 : True := .intro
theorem tw11195825439103088392 : True := .intro
theorem tw10218383930861531708 : True := .intro
theorem tw17232838190308924447 : True := .intro
theorem tw8614456895164841796 : True := .intro
theorem tw8901090438185503618 : True := .intro
theorem tw9526514111941888761 : True := .intro
theorem tw11146969299610506304 : True := .intro
theorem tw6600764274018207031 : True := .intro
theorem tw11195308612549025887 : True := .intro
theorem tw14089495690200065318 : True := .intro
theorem tw5806082090278812080 : True := .intro
theorem tw17494412418756626183 : True := .intro
theorem tw268643247208755463 : True := .intro
theorem tw5912149319695003239 : True := .intro
theorem tw13553829902050497185 : True := .intro
theorem tw5696056785759406685 : True := .intro
theorem tw10727351370823010405 : True := .intro
theorem tw9117684114418576550 : True := .intro
theorem tw12140232394957492908 : True := .intro
theorem tw12992984657400537127 : True := .intro
theorem tw16257054835265467896 : True := .intro
theorem tw5526649947678378338 : True := .intro
theorem tw14628672147542322035 : True := .intro
theorem tw9295813946254572497 : True := .intro
theorem tw6536150372215767557 : True := .intro
theorem tw6547588460009923634 : True := .intro
theorem tw7198603968271001485 : True := .intro
theorem tw15734486166606310190 : True := .intro
theorem tw10497908282260434093 : True := .intro
theorem tw14645909729776701516 : True := .intro
theorem tw11481913426442309343 : True := .intro
theorem tw14310955106869666984 : True := .intro
theorem tw3695080696986058020 : True := .intro
theorem tw2384088566335163354 : True := .intro
theorem tw747447769315261110 : True := .intro
theorem tw3812906115255038421 : True := .intro
theorem tw15368129867171800850 : True := .intro
theorem tw7469204682917147511 : True := .intro
theorem tw3955904657571436308 : True := .intro
theorem tw4053867416631616014 : True := .intro
theorem tw10357260903078115047 : True := .intro
theorem tw10183507003302931949 : True := .intro
theorem tw17134442059608232891 : True := .intro
theorem tw1429313654859668109 : True := .intro
theorem tw15231985949689143957 : True := .intro
theorem tw12326406934531044260 : True := .intro
theorem tw13557290967164404886 : True := .intro
theorem tw16489720213536097047 : True := .intro
theorem tw16087507119894480082 : True := .intro
theorem tw12764268653953781068 : True := .intro
theorem tw7519819438890861773 : True := .intro
theorem tw3940251505968766951 : True := .intro
theorem tw9093300889121252306 : True := .intro
theorem tw4486288496920157247 : True := .intro
theorem tw3515879845755001245 : True := .intro
theorem tw15956520197397537387 : True := .intro
theorem tw1582707565292708309 : True := .intro
theorem tw15714312472061452398 : True := .intro
theorem tw934452218114373547 : True := .intro
theorem tw12035323404857903572 : True := .intro
theorem tw3284115359785196620 : True := .intro
theorem tw4159180982193236043 : True := .intro
theorem tw6996761113811840533 : True := .intro
theorem tw14822066012005022316 : True := .intro
theorem tw8090141242279395528 : True := .intro
theorem tw3670554127023995887 : True := .intro
theorem tw5470811462250961496 : True := .intro
theorem tw2079361991256570856 : True := .intro
theorem tw1718123423485914831 : True := .intro
theorem tw16262328445468746133 : True := .intro
theorem tw3255986186326148154 : True := .intro
theorem tw11187808100909074571 : True := .intro
theorem tw13439785665555543540 : True := .intro
theorem tw12785543675386779317 : True := .intro
theorem tw1921561008383071127 : True := .intro
theorem tw2050712035531251297 : True := .intro
theorem tw5329084246440454828 : True := .intro
theorem tw11383715516809540151 : True := .intro
theorem tw10909049645212642309 : True := .intro
theorem tw290189564296418507 : True := .intro
end PySem.W.Fast
open PySem PySem.W PyProof.Rows
set_option maxHeartbeats 0
open_top K24.hd for PySem.Challenge.rw_filerights_k24_people_refused
theorem PySem.Challenge.cw_filerights_k24_people_refused_holds : PySem.Challenge.rw_filerights_k24_people_refused.Holds := by
  refine K24.hd ?_
  k_fill
  refine FR.walk_ofG (l := PySem.Challenge.rw_filerights_k24_people_refused) (n := 63) (k := 9) (sp := fun w => K24.spLaw _) rfl (by decide) rfl ⟨rfl, by decide, by decide⟩ (fun w h Y => PySem.W.kIn_of Y) ?F (fun _ _ a ns hl _ hS => ⟨a, ns, rfl, hS, hl, fun _ => rfl⟩)
  case F =>
    intro w mg fa h KX G hmg
    refine' K24.all_mk KX G hmg ?oa0 ?opg0 ?ohd0 ?opo0 ?osa0 ?omk0 ?okc0 ?oca0 ?ocn0 ?oct0 ?ocm0 ?osf0 ?ocd0 ?omr0 ?one0 ?ona_held0 ?ona_groups0 ?onfdict0 ?onfint0 ?oic0 ?oyt0 ?oktdict0 ?oktint0 ?a0 ?l0 ?c0 ?k0 ?a1 ?l1 ?c1 ?k1 ?a2 ?l2 ?c2 ?k2 ?a3 ?l3 ?c3 ?k3 ?a4 ?l4 ?c4 ?k4 ?a5 ?l5 ?c5 ?k5 ?a6 ?l6 ?c6 ?k6 ?a7 ?l7 ?c7 ?k7 ?a8 ?l8 ?c8 ?k8 ?a9 ?l9 ?c9 ?k9 ?a10 ?l10 ?c10 ?k10 ?a11 ?l11 ?c11 ?k11 ?a12 ?l12 ?c12 ?k12 ?a13 ?l13 ?c13 ?k13 ?a14 ?l14 ?c14 ?k14 ?a15 ?l15 ?c15 ?k15 ?a16 ?t16 ?l16 ?c16 ?k16 ?a18 ?t18 ?l18 ?c18 ?k18 ?a19 ?t19 ?l19 ?c19 ?k19 ?a20 ?t20 ?l20 ?c20 ?k20 ?a21 ?t21 ?l21 ?c21 ?k21 ?a22 ?t22 ?l22 ?c22 ?k22 ?ka0 ?ka1 ?ka2 ?ka3 ?ka4 ?ka5 ?ka6 ?ic0 ?yt0 ?ic1 ?yt1 ?ic2 ?yt2 ?xl3 ?sa3 ?ga3 ?gg3 ?nb3 ?in3 ?ti3 ?li3 ?ci3 ?kc3 ?eb3 ?yt3 ?hd3 ?ic3 ?sc3 ?ca3 ?cn3 ?xt3 ?cm3 ?xl4 ?sa4 ?ga4 ?gg4 ?nb4 ?in4 ?ti4 ?li4 ?ci4 ?kc4 ?eb4 ?yt4 ?hd4 ?ic4 ?sc4 ?ca4 ?cn4 ?xt4 ?cm4 ?xl5 ?sa5 ?ga5 ?gg5 ?nb5 ?in5 ?ti5 ?li5 ?ci5 ?kc5 ?eb5 ?yt5 ?hd5 ?ic5 ?sc5 ?ca5 ?cn5 ?xt5 ?cm5 ?xl6 ?sa6 ?ga6 ?gg6 ?nb6 ?in6 ?ti6 ?li6 ?ci6 ?kc6 ?eb6 ?yt6 ?hd6 ?ic6 ?sc6 ?ca6 ?cn6 ?xt6 ?cm6 ?kit_InvalidPeople_RightsError ?kit_InvalidPeople_MissingError ?kit_InvalidPeople_TooMany ?kit_TooMany_RightsError ?kit_TooMany_RefusedError ?kit_UnknownUser_MissingError ?kit_UnknownUser_UnknownGroup ?kit_UnknownGroup_MissingError ?kit_UnknownGroup_RightsError ?exm_TooMany_InvalidPeople ?exm_UnknownGroup_UnknownUser ?q0 ?q1 ?q2 ?z0 ?z1 ?z2 ?z3 ?z4 ?z5 ?z6 ?z7 ?z8 ?z9 ?z10 ?z11 ?z12
    (case oa0 => k_is)
    (case opg0 => k_is)
    (case ohd0 => k_is)
    (case opo0 => k_is)
    (case osa0 => k_is)
    (case omk0 => first | k_is | exact (by rfl) | exact FR.size_le (by decide) | decide | (repeat (first | exact True.intro | exact .nil | refine .cons ⟨_, rfl⟩ ?_ | refine ⟨⟨_, _, rfl, rfl⟩, ?_⟩)))
    (case okc0 => k_is)
    (case oca0 => k_is)
    (case ocn0 => k_is)
    (case oct0 => k_is)
    (case ocm0 => k_is)
    (case osf0 => k_is)
    (case ocd0 => k_is)
    (case omr0 => first | k_is | exact (by rfl) | exact FR.size_le (by decide) | decide | (repeat (first | exact True.intro | exact .nil | refine .cons ⟨_, rfl⟩ ?_ | refine ⟨⟨_, _, rfl, rfl⟩, ?_⟩)))
    (case one0 => k_is)
    (case ona_held0 => k_is)
    (case ona_groups0 => k_is)
    (case onfdict0 => k_is)
    (case onfint0 => k_is)
    (case oic0 => k_is)
    (case oyt0 => k_is)
    (case oktdict0 => k_is)
    (case oktint0 => k_is)
    (case a0 => k_is)
    (case l0 => k_is)
    (case c0 => k_is)
    (case k0 => k_is)
    (case a1 => k_is)
    (case l1 => k_is)
    (case c1 => k_is)
    (case k1 => k_is)
    (case a2 => k_is)
    (case l2 => k_is)
    (case c2 => k_is)
    (case k2 => k_is)
    (case a3 => k_is)
    (case l3 => k_is)
    (case c3 => k_is)
    (case k3 => k_is)
    (case a4 => k_is)
    (case l4 => k_is)
    (case c4 => k_is)
    (case k4 => k_is)
    (case a5 => k_is)
    (case l5 => k_is)
    (case c5 => k_is)
    (case k5 => k_is)
    (case a6 => k_is)
    (case l6 => k_is)
    (case c6 => k_is)
    (case k6 => k_is)
    (case a7 => k_is)
    (case l7 => k_is)
    (case c7 => k_is)
    (case k7 => k_is)
    (case a8 => k_is)
    (case l8 => k_is)
    (case c8 => k_is)
    (case k8 => k_is)
    (case a9 => k_is)
    (case l9 => k_is)
    (case c9 => k_is)
    (case k9 => k_is)
    (case a10 => k_is)
    (case l10 => k_is)
    (case c10 => k_is)
    (case k10 => k_is)
    (case a11 => k_is)
    (case l11 => k_is)
    (case c11 => k_is)
    (case k11 => k_is)
    (case a12 => k_is)
    (case l12 => k_is)
    (case c12 => k_is)
    (case k12 => k_is)
    (case a13 => k_is)
    (case l13 => k_is)
    (case c13 => k_is)
    (case k13 => k_is)
    (case a14 => k_is)
    (case l14 => k_is)
    (case c14 => k_is)
    (case k14 => k_is)
    (case a15 => k_is)
    (case l15 => k_is)
    (case c15 => k_is)
    (case k15 => k_is)
    (case a16 => k_is)
    (case t16 => k_is)
    (case l16 => k_is)
    (case c16 => k_is)
    (case k16 => k_is)
    (case a18 => k_is)
    (case t18 => k_is)
    (case l18 => k_is)
    (case c18 => k_is)
    (case k18 => k_is)
    (case a19 => k_is)
    (case t19 => k_is)
    (case l19 => k_is)
    (case c19 => k_is)
    (case k19 => k_is)
    (case a20 => k_is)
    (case t20 => k_is)
    (case l20 => k_is)
    (case c20 => k_is)
    (case k20 => k_is)
    (case a21 => k_is)
    (case t21 => k_is)
    (case l21 => k_is)
    (case c21 => k_is)
    (case k21 => k_is)
    (case a22 => k_is)
    (case t22 => k_is)
    (case l22 => k_is)
    (case c22 => k_is)
    (case k22 => k_is)
    (case ka0 => k_is)
    (case ka1 => k_is)
    (case ka2 => k_is)
    (case ka3 => k_is)
    (case ka4 => k_is)
    (case ka5 => k_is)
    (case ka6 => k_is)
    (case ic0 => k_is)
    (case yt0 => k_is)
    (case ic1 => k_is)
    (case yt1 => k_is)
    (case ic2 => k_is)
    (case yt2 => k_is)
    (case xl3 => k_is)
    (case sa3 => k_is)
    (case ga3 => k_is)
    (case gg3 => k_is)
    (case nb3 => k_is)
    (case in3 => k_is)
    (case ti3 => k_is)
    (case li3 => k_is)
    (case ci3 => k_is)
    (case kc3 => k_is)
    (case eb3 => k_is)
    (case yt3 => k_is)
    (case hd3 => k_is)
    (case ic3 => k_is)
    (case sc3 => k_is)
    (case ca3 => k_is)
    (case cn3 => k_is)
    (case xt3 => k_is)
    (case cm3 => k_is)
    (case xl4 => k_is)
    (case sa4 => k_is)
    (case ga4 => k_is)
    (case gg4 => k_is)
    (case nb4 => k_is)
    (case in4 => k_is)
    (case ti4 => k_is)
    (case li4 => k_is)
    (case ci4 => k_is)
    (case kc4 => k_is)
    (case eb4 => k_is)
    (case yt4 => k_is)
    (case hd4 => k_is)
    (case ic4 => k_is)
    (case sc4 => k_is)
    (case ca4 => k_is)
    (case cn4 => k_is)
    (case xt4 => k_is)
    (case cm4 => k_is)
    (case xl5 => k_is)
    (case sa5 => k_is)
    (case ga5 => k_is)
    (case gg5 => k_is)
    (case nb5 => k_is)
    (case in5 => k_is)
    (case ti5 => k_is)
    (case li5 => k_is)
    (case ci5 => k_is)
    (case kc5 => k_is)
    (case eb5 => k_is)
    (case yt5 => k_is)
    (case hd5 => k_is)
    (case ic5 => k_is)
    (case sc5 => k_is)
    (case ca5 => k_is)
    (case cn5 => k_is)
    (case xt5 => k_is)
    (case cm5 => k_is)
    (case xl6 => k_is)
    (case sa6 => k_is)
    (case ga6 => k_is)
    (case gg6 => k_is)
    (case nb6 => k_is)
    (case in6 => k_is)
    (case ti6 => k_is)
    (case li6 => k_is)
    (case ci6 => k_is)
    (case kc6 => k_is)
    (case eb6 => k_is)
    (case yt6 => k_is)
    (case hd6 => k_is)
    (case ic6 => k_is)
    (case sc6 => k_is)
    (case ca6 => k_is)
    (case cn6 => k_is)
    (case xt6 => k_is)
    (case cm6 => k_is)
    (case kit_InvalidPeople_RightsError => k_is)
    (case kit_InvalidPeople_MissingError => k_is)
    (case kit_InvalidPeople_TooMany => k_is)
    (case kit_TooMany_RightsError => k_is)
    (case kit_TooMany_RefusedError => k_is)
    (case kit_UnknownUser_MissingError => k_is)
    (case kit_UnknownUser_UnknownGroup => k_is)
    (case kit_UnknownGroup_MissingError => k_is)
    (case kit_UnknownGroup_RightsError => k_is)
    (case exm_TooMany_InvalidPeople => k_is)
    (case exm_UnknownGroup_UnknownUser => k_is)
    (case q0 => k_is)
    (case q1 => k_is)
    (case q2 => k_is)
    (case z0 => k_is)
    (case z1 => k_is)
    (case z2 => k_is)
    (case z3 => k_is)
    (case z4 => k_is)
    (case z5 => k_is)
    (case z6 => k_is)
    (case z7 => k_is)
    (case z8 => k_is)
    (case z9 => k_is)
    (case z10 => k_is)
    (case z11 => k_is)
    (case z12 => k_is)
