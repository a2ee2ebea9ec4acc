import PyProof.Rows.All
import Wide.All
import OpenK.AllK
import Wide.FinOn
import HandS.ForMost
import HandS.IsInst
import HandS.Defaults
import HandS.StrMore
import HandS.Flow
import HandS.Codes
import HandS.EndBits
import HandS.Walk
import HandS.Replace
import HandS.Star
import HandS.TupLe
import HandS.ForExc
import HandS.TryMany
import HandS.ExcIs
import HandS.ExcField
import KE.OsGo
import KE.KExcIs
import HandS.Deep
import PyProof.EqKinds
import HandS.SlotsOwn
import KE.KOpsOwn
import HandS.Conv
import PyProof.ListStr
import HandS.ReplaceDef
import HandS.ReplaceLit
import HandS.ReplaceList
import PyProof.Rows.Range3
import HandS.ClsMeth
import PyProof.P3In
import HandS.TupAny
import HandS.SetTxt0
import HandS.Zip
import HandS.Lambda
import PyProof.CallFns
import PyProof.NeData
import HandS.EndTab
import KE.KUnpackStar
import HandS.DictTup
import KE.KDictList
import KE.KDictItemsList
import HandS.NoneIn
import HandS.Strs
import HandS.More
import HandS.SetFor
import PyProof.WalksMore
import PyProof.WalksS
import HandS.Comp
import HandS.SetBool
import HandS.SortKw
import HandS.Style
import PyProof.SumWalk
import OpenK.KMeth
import HandS.DictComp
import PyProof.P3Eq
import HandS.Iter
import HandS.Small
import HandS.Finally
import HandS.Property
import HandS.MakeKwOnly
import PySem.Challenge.RW_filerights_k23_people_told
set_option Elab.async false
set_option linter.all false
set_option maxRecDepth 100000
/-! own lemmas over the hand layer: what a def's body holds of the heap -/
namespace FR
open PySem PySem.Spec PyProof.Rows L2 TL
/-- all that was tracked, other than at M, is as it was -/
def Keep (M : List Addr) (H H' : Hp) : Prop := ∀ b o, H b = some o → b ∉ M → H' b = some o
theorem Keep.refl {M : List Addr} {H : Hp} : Keep M H H := fun _ _ h _ => h
theorem Keep.same {H H' : Hp} (k : Keep [] H H') : Same H H' := fun b o h => k b o h (by simp)
theorem Keep.of_same {H H' : Hp} (k : Same H H') : Keep [] H H' := fun b o h _ => k b o h
theorem Keep.free {H H' : Hp} (k : Keep [] H H') {p : Addr} (h : H' p = none) : H p = none := k.same.free h
/-- a body's heap: H0 at its entry, M what it may change, L what it holds -/
structure Ow (H0 : Hp) (M : List Addr) (H : Hp) (L : List (Addr × HO)) : Prop where
  keep : ∀ b o, H0 b = some o → b ∉ M → H b = some o
  has : ∀ p ∈ L, H p.1 = some p.2
  nd : (L.map (·.1)).Nodup
  fr : ∀ p ∈ L, H0 p.1 = none ∨ p.1 ∈ M
section
variable {H0 H H' : Hp} {M : List Addr} {L : List (Addr × HO)} {a p : Addr} {o o' : HO} {K : PySem.W.Frag} {xs : List V}
theorem Ow.start0 : Ow H [] H [] := ⟨fun _ _ h _ => h, fun _ h => by simp at h, by simp, fun _ h => by simp at h⟩
theorem Ow.start1 (h : H a = some o) : Ow H [a] H [(a, o)] := ⟨fun _ _ h _ => h, fun p hp => by simp at hp; subst hp; exact h, by simp, fun p hp => by simp at hp; subst hp; exact .inr (by simp)⟩
theorem Ow.get (W : Ow H0 M H L) (i : Nat) (e : L[i]? = some (a, o)) : H a = some o := W.has _ (List.mem_of_getElem? e)
theorem Ow.new (W : Ow H0 M H L) (h : H p = none) : Ow H0 M (upd H p o) ((p, o) :: L) where
  keep := fun b u e hb => by
    rw [upd_ne (ne_of_none (W.keep b u e hb) h)]
    exact W.keep b u e hb
  has := fun q hq => by
    rcases List.mem_cons.mp hq with rfl | hq
    · exact upd_same
    · rw [upd_ne (ne_of_none (W.has q hq) h)]
      exact W.has q hq
  nd := by
    rw [List.map_cons, List.nodup_cons]
    refine ⟨fun hm => ?_, W.nd⟩
    obtain ⟨q, hq, e⟩ := List.mem_map.mp hm
    have := W.has q hq
    rw [show q.1 = p from e, h] at this
    cases this
  fr := fun q hq => by
    rcases List.mem_cons.mp hq with rfl | hq
    · by_cases hm : p ∈ M
      · exact .inr hm
      · cases e : H0 p with
        | none => exact .inl rfl
        | some u =>
          have := W.keep p u e hm
          rw [h] at this
          cases this
    · exact W.fr q hq
theorem nd_of {α β : Type} [DecidableEq α] : ∀ {L : List (α × β)} {i : Nat} {x : α × β} {q : α × β}, (L.map (·.1)).Nodup → L[i]? = some x → q ∈ L → q.1 = x.1 → q = x
  | [], i, x, q, _, e, _, _ => by simp at e
  | y :: L, 0, x, q, hn, e, hq, h => by
    have e' : y = x := Option.some.inj e
    subst e'
    rcases List.mem_cons.mp hq with r | hq
    · exact r
    · rw [List.map_cons, List.nodup_cons] at hn
      exact absurd (List.mem_map.mpr ⟨q, hq, h⟩) hn.1
  | y :: L, i + 1, x, q, hn, e, hq, h => by
    rw [List.map_cons, List.nodup_cons] at hn
    have e' : L[i]? = some x := e
    rcases List.mem_cons.mp hq with r | hq
    · subst r
      exact absurd (List.mem_map.mpr ⟨x, List.mem_of_getElem? e', h.symm⟩) hn.1
    · exact nd_of hn.2 e' hq h
theorem map_set_fst {α β : Type} : ∀ {L : List (α × β)} {i : Nat} {a : α} {o o' : β}, L[i]? = some (a, o) → (L.set i (a, o')).map (·.1) = L.map (·.1)
  | [], i, a, o, o', e => by simp at e
  | y :: L, 0, a, o, o', e => by
    have e' : y = (a, o) := Option.some.inj e
    subst e'
    rfl
  | y :: L, i + 1, a, o, o', e => by
    have e' : L[i]? = some (a, o) := e
    rw [List.set_cons_succ, List.map_cons, List.map_cons, map_set_fst e']
theorem Ow.any1 (W : Ow H0 M H L) (i : Nat) (e : L[i]? = some (a, o)) (k : Keep [a] H H') (h : H' a = some o') : Ow H0 M H' (L.set i (a, o')) where
  keep := fun b u eb hb => by
    have z := W.keep b u eb hb
    refine k b u z ?_
    intro hm
    have hm' : b = a := by simpa using hm
    subst hm'
    rcases W.fr _ (List.mem_of_getElem? e) with r | r
    · rw [show (b, o).1 = b from rfl, eb] at r; cases r
    · exact hb r
  has := fun q hq => by
    rcases List.mem_or_eq_of_mem_set hq with hq | rfl
    · by_cases ha : q.1 = a
      · have := nd_of (q := q) (by rw [map_set_fst (o' := o') e]; exact W.nd) (show (L.set i (a, o'))[i]? = some (a, o') by
          have hi : i < L.length := (List.getElem?_eq_some_iff.mp e).1
          rw [List.getElem?_set_self hi]) (by assumption) ha
        subst this
        exact h
      · exact k _ _ (W.has q hq) (by simpa using ha)
    · exact h
  nd := by rw [map_set_fst e]; exact W.nd
  fr := fun q hq => by
    rcases List.mem_or_eq_of_mem_set hq with hq | rfl
    · exact W.fr q hq
    · exact (W.fr (a, o) (List.mem_of_getElem? e) : H0 a = none ∨ a ∈ M)
theorem keep_upd {H : Hp} {a : Addr} {o : HO} : Keep [a] H (upd H a o) := fun b u e hb => by
  rw [upd_ne (by simpa using hb)]
  exact e
theorem Ow.set (W : Ow H0 M H L) (i : Nat) (e : L[i]? = some (a, o)) : Ow H0 M (upd H a o') (L.set i (a, o')) := W.any1 i e keep_upd upd_same
/-- a call that changed nothing -/
theorem Ow.call0 (W : Ow H0 M H L) (k : Keep [] H H') : Ow H0 M H' L where
  keep := fun b u e hb => k b u (W.keep b u e hb) (by simp)
  has := fun q hq => k _ _ (W.has q hq) (by simp)
  nd := W.nd
  fr := W.fr
/-- .. and handed back a new object -/
theorem Ow.res (W : Ow H0 M H L) (W' : Ow H0 M H' L) (hp : H p = none) (h : H' p = some o) : Ow H0 M H' ((p, o) :: L) where
  keep := W'.keep
  has := fun q hq => by
    rcases List.mem_cons.mp hq with rfl | hq
    · exact h
    · exact W'.has q hq
  nd := by
    rw [List.map_cons, List.nodup_cons]
    refine ⟨fun hm => ?_, W.nd⟩
    obtain ⟨q, hq, e⟩ := List.mem_map.mp hm
    have := W.has q hq
    rw [show q.1 = p from e, hp] at this
    cases this
  fr := fun q hq => by
    rcases List.mem_cons.mp hq with rfl | hq
    · by_cases hm : p ∈ M
      · exact .inr hm
      · cases e : H0 p with
        | none => exact .inl rfl
        | some u =>
          have := W.keep p u e hm
          rw [hp] at this
          cases this
    · exact W.fr q hq
theorem Ow.tail {q : Addr × HO} (W : Ow H0 M H (q :: L)) : Ow H0 M H L := ⟨W.keep, fun p hp => W.has p (List.mem_cons_of_mem _ hp), (List.nodup_cons.mp W.nd).2, fun p hp => W.fr p (List.mem_cons_of_mem _ hp)⟩
theorem Ow.drop (W : Ow H0 M H L) : Ow H0 M H [] := ⟨W.keep, fun _ h => by simp at h, by simp, fun _ h => by simp at h⟩
theorem Ow.seq (W : Ow H0 M H L) (h : SqL K H0 a xs) (ha : a ∉ M) : SqL K H a xs := by
  rcases h with (h | ⟨o, h⟩) | h
  · exact .inl (.inl (W.keep _ _ h ha))
  · exact .inl (.inr ⟨o, W.keep _ _ h ha⟩)
  · exact .inr h
theorem Ow.sq (W : Ow H0 M H L) (i : Nat) (e : L[i]? = some (a, .lst xs)) : SqL K H a xs := .inl (.inl (W.get i e))
theorem Ow.sqT (W : Ow H0 M H L) (i : Nat) (e : L[i]? = some (a, .tup xs)) : SqT K H a xs := .inl (.inl (W.get i e))
end
/-! ### objects that are made or changed: the heap behind is told by what it keeps -/
structure NewO (o : HO) (Q : VK) (H : Hp) : Prop where
  to : ∀ (p : Addr) (H' : Hp), H p = none → Keep [] H H' → H' p = some o → Q (.ref p) H'
structure MutO (a : Addr) (o : HO) (Q : Hp → Prop) (H : Hp) : Prop where
  to : ∀ H' : Hp, Keep [a] H H' → H' a = some o → Q H'
theorem keep_new {H : Hp} {p : Addr} {o : HO} (np : H p = none) : Keep [] H (upd H p o) := fun b u e _ => by
  rw [upd_ne (ne_of_none e np)]
  exact e
theorem NewO.all {o : HO} {Q : VK} {H : Hp} (h : NewO o Q H) : ∀ p, H p = none → Q (.ref p) (upd H p o) := fun p np => h.to p _ np (keep_new np) upd_same
theorem MutO.at {a : Addr} {o : HO} {Q : Hp → Prop} {H : Hp} (h : MutO a o Q H) : Q (upd H a o) := h.to _ keep_upd upd_same
section
variable {H0 H H' : Hp} {M : List Addr} {L : List (Addr × HO)} {a p : Addr} {o o' : HO} {G : Prop}
theorem with1 (i : Nat) (W : Ow H0 M H L) (e : L[i]? = some (a, o)) (k : Keep [a] H H') (h : H' a = some o') (g : Ow H0 M H' (L.set i (a, o')) → G) : G := g (W.any1 i e k h)
theorem withN (W : Ow H0 M H L) (np : H p = none) (k : Keep [] H H') (h : H' p = some o) (g : Ow H0 M H' ((p, o) :: L) → G) : G := g (W.res (W.call0 k) np h)
theorem with0 (W : Ow H0 M H L) (k : Keep [] H H') (g : Ow H0 M H' L → G) : G := g (W.call0 k)
end
section
variable {X : Cx} {e : Expr} {es : List Expr} {t t' : TE} {ta : TA} {pos : Pos} {K : PySem.W.Frag}
def mA (t : TA) : TA := fun σ H Q => ∃ Q0, t σ H Q0 ∧ ∀ xs H', Q0 xs H' → Q xs H'
theorem pa_m (h : PA X es ta) : PA X es (mA ta) := ⟨fun pos pins s σ H Q I hq => by
  obtain ⟨Q0, h0, hi⟩ := hq
  exact thn (h.run pos pins s σ H Q0 I h0) fun us s1 ⟨xs, H1, I1, r, q⟩ => ⟨xs, H1, I1, r, hi _ _ q⟩⟩
theorem pe_imp (h : PE X e t) (k : ∀ σ H Q, t' σ H Q → t σ H Q) : PE X e t' := ⟨fun pins s σ H Q I q => h.run pins s σ H Q I (k σ H Q q)⟩
def tLstN (t : TA) : TE := fun σ H Q => t σ H fun xs H1 => xs.length ≤ sizeLine ∧ NewO (.lst xs) Q H1
def tTupN (t : TA) : TE := fun σ H Q => t σ H fun xs H1 => xs.length ≤ sizeLine ∧ NewO (.tup xs) Q H1
theorem pe_lstN (h : PA X es ta) : PE X (.List es pos) (tLstN ta) := pe_imp (pe_lst (pa_m h)) fun σ H Q q => ⟨_, q, fun xs H1 z => ⟨z.1, z.2.all⟩⟩
theorem pe_tupN {x1} (h : PA X es ta) : PE X (.Tuple es x1 pos) (tTupN ta) := pe_imp (pe_tup (pa_m h)) fun σ H Q q => ⟨_, q, fun xs H1 z => ⟨z.1, z.2.all⟩⟩
theorem pe_dnewN : PE X (.Dict [] [] pos) (fun _ H Q => NewO (.dK []) Q H) := pe_imp pe_dnewK fun σ H Q q => q.all
def rSetN : V → V → V → Hp → (Hp → Prop) → Prop := fun o i v H Q => ∃ p xs k j, o = .ref p ∧ i = .int k ∧ H p = some (.lst xs) ∧ ixN xs.length k = some j ∧ MutO p (.lst (xs.set j v)) Q H
theorem set_listN : PSet X rSetN := fun pins s σ H o i v ov iv u Q I ro ri rv h => by
  obtain ⟨p, xs, k, j, e1, e2, hp, hj, q⟩ := h
  exact set_list pins s σ H o i v ov iv u Q I ro ri rv ⟨p, xs, k, j, e1, e2, hp, hj, q.at⟩
def rSlN (K : PySem.W.Frag) : V → Option Int → Option Int → Hp → VK → Prop := fun x lo hi H Q => ∃ a xs, x = .ref a ∧ SqL K H a xs ∧ NewO (.lst (cutV xs lo hi)) Q H
theorem sl_listN : SlR X (rSlN X.K) := fun pins s σ H x v vl vu lo hi sl Q I rx hs pl pu h => by
  obtain ⟨a, xs, e, hx, q⟩ := h
  exact sl_list pins s σ H x v vl vu lo hi sl Q I rx hs pl pu ⟨a, xs, e, hx, q.all⟩
def rCatN : R2 := fun x y H Q => ∃ l b xs zs, x = .ref l ∧ y = .ref b ∧ H l = some (.lst xs) ∧ H b = some (.lst zs) ∧ xs.length + zs.length ≤ sizeLine ∧ NewO (.lst (xs ++ zs)) Q H
theorem op_catN : OpR X (binaryOp .Add) rCatN := fun pins s σ H x y v u Q I rx ry h => by
  obtain ⟨l, b, xs, zs, e1, e2, hl, hb, hz, q⟩ := h
  exact op_cat pins s σ H x y v u Q I rx ry ⟨l, b, xs, zs, e1, e2, hl, hb, hz, q.all⟩
def rAppN : V → List V → Hp → VK → Prop := fun x vs H Q => ∃ l xs y, x = .ref l ∧ vs = [y] ∧ H l = some (.lst xs) ∧ xs.length < sizeLine ∧ MutO l (.lst (xs ++ [y])) (Q .non) H
theorem mt_appN : MtR X "list.append" rAppN := fun pins s σ H x xs v us Q I rx rv h => by
  obtain ⟨l, ys, y, e1, e2, hl, hz, q⟩ := h
  exact mt_append pins s σ H x xs v us Q I rx rv ⟨l, ys, y, e1, e2, hl, hz, q.at⟩
def rSplN : V → List V → Hp → VK → Prop := fun x xs H Q => ∃ a b, x = .str a ∧ xs = [.str b] ∧ (b.length == 0) = false ∧ a.length + 2 ≤ sizeLine ∧ NewO (.lst ((Txt.split a b).map V.str)) Q H
theorem mt_splN : MtR X "str.split" rSplN := fun pins s σ H x xs v us Q I rx rv h => by
  obtain ⟨a, b, e1, e2, h1, h2, q⟩ := h
  exact mt_split pins s σ H x xs v us Q I rx rv ⟨a, b, e1, e2, h1, h2, q.all⟩
def rLofN (K : PySem.W.Frag) : List V → Hp → VK → Prop := fun xs H Q => ∃ p ys, xs = [.ref p] ∧ (SqL K H p ys ∨ SqT K H p ys) ∧ NewO (.lst ys) Q H
theorem call_lofN : CallR X (.type "list") (rLofN X.K) := fun pins s σ H xs us Q I r h => by
  obtain ⟨p, ys, e, hs, q⟩ := h
  exact call_list_of pins s σ H xs us Q I r ⟨p, ys, e, hs, q.all⟩
end
/-! ### calls with keywords of a def without defaults by place -/
section
variable {K : PySem.W.Frag} {x qual : Str} {params : Arguments} {body : List Stmt} {scope : Scope} {kws : List (Str × V)} {f : Addr} {fd : FuncData} {ps : List Str}
theorem kb0 (F : FunD K x qual params body scope [] kws f fd) (n : Nat) (ks : List Str) (ms : List (Str × V)) (g : {α : Type} → List α → List α → List α → List α) (hk : kws ≠ []) (hms : ∀ q ∈ ms, q ∈ kws)
    (hrel : ∀ {vs mz zs : List V} {us mv ws : List Value}, Vals vs us → Vals mz mv → Vals zs ws → Vals (g vs mz zs) (g us mv ws))
    (h : ∀ (D : Addr) (doc pm : Value) (an : Option Addr) (cdv ct : Value) (us mv ws : List Value), us.length = n → mv.length = ms.length → ws.length = ks.length →
      KwChain D ((ms.map (·.1)).zip mv) (bindArgs (PySem.W.fnOf x qual params body scope .none (.ref D) doc pm an cdv ct) ⟨us, ks.zip ws⟩) (ps.zip (g us mv ws))) :
    ∃ mv : List Value, KBn K fd ps n ks (fun us ws => g us mv ws) (fun vs zs => g vs (ms.map (·.2)) zs) := by
  obtain ⟨oc, od, dV, kV, doc, pm, an, cdv, ct, osl, rfl, lk, hcd, hD, hK⟩ := F.ex
  rcases hD with ⟨_, rfl⟩ | ⟨e, _⟩
  · rcases hK with e | ⟨D, rfl, hq⟩
    · exact absurd e hk
    · obtain ⟨mv, hl, rk, hks⟩ := kwd_vals (ms := ms) fun q hm => hq q (hms q hm)
      exact ⟨mv, fun s us ws X l1 l2 => BindsTo.of_looks fun M => KwChain.looks X hks (h D doc pm an cdv ct us mv ws l1 hl l2), fun r1 r2 => hrel r1 rk r2⟩
  · exact absurd rfl e
end
section
variable {X : Cx} {CX : CXT} {k : Nat} {f : Addr} {fd : FuncData} {ps ks : List Str} {sp : Sp} {E : XK} {x : Str} {p pos : Pos} {kws : List Keyword} {tk : TA} {g : List Value → List Value → List Value} {gV : List V → List V → List V}
theorem pe_callN0 (F : FnOk X.prog X.w X.K X.mg X.base CX k f fd ps sp) (hr : Room k X.A) (hg : Gl X x) (hm : X.mg x = some (.ref f)) (hk : PySem.W.keepIn X.K (.ref f) = true) (hb : KBn X.K fd ps 0 ks g gV) (hx : Passes CX X E) (hkw : PK X kws tk)
    (hall : (backToKw pos (keywordEach kws X.env)).all (·.1.isSome) = true := by rfl) (hks : (backToKw pos (keywordEach kws X.env)).filterMap (·.1) = ks := by rfl) (hdb : (x == ("__debug__" : Str)) = false := by decide)
    (hpl : ((backTo pos (starEach [] X.env)).any (·.1) || (backToKw pos (keywordEach kws X.env)).any (·.1.isNone)) = false := by rfl) : PE X (.Call (.Name x p) [] kws pos) (tCallN 0 ks.length sp gV E tNil tk) := ⟨fun pins s σ H Q I h => by
  refine wpAny_Call_Name_kw (ld_glob I hg hm (PySem.W.callWith_KW0 (h₀ := X.base) I.ok.mod.kin hk hall ?_ hpl) hdb)
  refine thn (hkw.run pos pins s σ H _ I h) fun ws s2 hz => ?_
  obtain ⟨zs, H2, I2, rz, l1, l2, q2⟩ := hz
  refine ⟨I2.kIn, ?_⟩
  rw [hks]
  exact run_fnN (us := []) (vs := []) F hr hb hx I2 .nil rz rfl l2 q2⟩
end
/-! ### tests -/
section
variable {A B : Prop}
theorem ifT {b : Bool} (h : b = true) (a : A) : if b = true then A else B := by rw [if_pos h]; exact a
theorem ifF {b : Bool} (h : b = false) (a : B) : if b = true then A else B := by rw [h, if_neg Bool.false_ne_true]; exact a
theorem ifB {b : Bool} (h1 : b = true → A) (h2 : b = false → B) : if b = true then A else B := by
  cases b
  · exact ifF rfl (h2 rfl)
  · exact ifT rfl (h1 rfl)
theorem ifNB {b : Bool} (h1 : b = false → A) (h2 : b = true → B) : if (!b) = true then A else B := by
  cases b
  · exact ifT rfl (h1 rfl)
  · exact ifF rfl (h2 rfl)
theorem ifD {p : Prop} [Decidable p] (h1 : p → A) (h2 : ¬ p → B) : if decide p = true then A else B := by
  by_cases h : p
  · exact ifT (decide_eq_true h) (h1 h)
  · exact ifF (decide_eq_false h) (h2 h)
theorem ifN {p : Prop} [Decidable p] (h1 : ¬ p → A) (h2 : p → B) : if (!decide p) = true then A else B := by
  by_cases h : p
  · exact ifF (by rw [decide_eq_true h]; rfl) (h2 h)
  · exact ifT (by rw [decide_eq_false h]; rfl) (h1 h)
theorem ifQ {b : Bool} {p : Prop} [Decidable p] (h : b = decide p) (h1 : p → A) (h2 : ¬ p → B) : if b = true then A else B := by
  rw [h]
  exact ifD h1 h2
theorem ifVI {i j : Int} (h1 : i = j → A) (h2 : i ≠ j → B) : if decide (V.int i = V.int j) = true then A else B := ifD (fun h => h1 (V.int.inj h)) fun h => h2 fun e => h (by rw [e])
theorem ifVIn {i j : Int} (h1 : i ≠ j → A) (h2 : i = j → B) : if (!decide (V.int i = V.int j)) = true then A else B := ifN (fun h => h1 fun e => h (by rw [e])) fun h => h2 (V.int.inj h)
theorem ifVS {i j : Str} (h1 : i = j → A) (h2 : i ≠ j → B) : if decide (V.str i = V.str j) = true then A else B := ifD (fun h => h1 (V.str.inj h)) fun h => h2 fun e => h (by rw [e])
theorem ifVSn {i j : Str} (h1 : i ≠ j → A) (h2 : i = j → B) : if (!decide (V.str i = V.str j)) = true then A else B := ifN (fun h => h1 fun e => h (by rw [e])) fun h => h2 (V.str.inj h)
end
/-! ### isinstance -/
theorem isi {K : PySem.W.Frag} {H : Hp} {Q : VK} {x : V} {t c : String} {b : Bool} (ty : TyX K H x (.type t)) (k : kitB t c = some b) (q : Q (.bl b) H) : rIsi K [x, .ty c] H Q := ⟨x, .ty c, .type t, .type c, b, rfl, .ty c, ty, kit_ty k, q⟩
theorem call_isiK {X : Cx} {K : PySem.W.Frag} (h : X.K = K) : CallR X (.builtin "isinstance") (rIsi K) := h ▸ call_isi
theorem ki_int_str : kitB "int" "str" = some false := by decide +kernel
theorem ki_int_int : kitB "int" "int" = some true := by decide +kernel
theorem ki_int_bool : kitB "int" "bool" = some false := by decide +kernel
theorem ki_int_list : kitB "int" "list" = some false := by decide +kernel
theorem ki_int_tuple : kitB "int" "tuple" = some false := by decide +kernel
theorem ki_int_dict : kitB "int" "dict" = some false := by decide +kernel
theorem ki_str_str : kitB "str" "str" = some true := by decide +kernel
theorem ki_str_int : kitB "str" "int" = some false := by decide +kernel
theorem ki_str_bool : kitB "str" "bool" = some false := by decide +kernel
theorem ki_str_list : kitB "str" "list" = some false := by decide +kernel
theorem ki_str_tuple : kitB "str" "tuple" = some false := by decide +kernel
theorem ki_str_dict : kitB "str" "dict" = some false := by decide +kernel
theorem ki_bl_str : kitB "bool" "str" = some false := by decide +kernel
theorem ki_bl_int : kitB "bool" "int" = some true := by decide +kernel
theorem ki_bl_bool : kitB "bool" "bool" = some true := by decide +kernel
theorem ki_bl_list : kitB "bool" "list" = some false := by decide +kernel
theorem ki_bl_tuple : kitB "bool" "tuple" = some false := by decide +kernel
theorem ki_bl_dict : kitB "bool" "dict" = some false := by decide +kernel
theorem ki_non_str : kitB "NoneType" "str" = some false := by decide +kernel
theorem ki_non_int : kitB "NoneType" "int" = some false := by decide +kernel
theorem ki_non_bool : kitB "NoneType" "bool" = some false := by decide +kernel
theorem ki_non_list : kitB "NoneType" "list" = some false := by decide +kernel
theorem ki_non_tuple : kitB "NoneType" "tuple" = some false := by decide +kernel
theorem ki_non_dict : kitB "NoneType" "dict" = some false := by decide +kernel
theorem ki_lst_str : kitB "list" "str" = some false := by decide +kernel
theorem ki_lst_int : kitB "list" "int" = some false := by decide +kernel
theorem ki_lst_bool : kitB "list" "bool" = some false := by decide +kernel
theorem ki_lst_list : kitB "list" "list" = some true := by decide +kernel
theorem ki_lst_tuple : kitB "list" "tuple" = some false := by decide +kernel
theorem ki_lst_dict : kitB "list" "dict" = some false := by decide +kernel
theorem ki_tup_str : kitB "tuple" "str" = some false := by decide +kernel
theorem ki_tup_int : kitB "tuple" "int" = some false := by decide +kernel
theorem ki_tup_bool : kitB "tuple" "bool" = some false := by decide +kernel
theorem ki_tup_list : kitB "tuple" "list" = some false := by decide +kernel
theorem ki_tup_tuple : kitB "tuple" "tuple" = some true := by decide +kernel
theorem ki_tup_dict : kitB "tuple" "dict" = some false := by decide +kernel
theorem ki_dK_str : kitB "dict" "str" = some false := by decide +kernel
theorem ki_dK_int : kitB "dict" "int" = some false := by decide +kernel
theorem ki_dK_bool : kitB "dict" "bool" = some false := by decide +kernel
theorem ki_dK_list : kitB "dict" "list" = some false := by decide +kernel
theorem ki_dK_tuple : kitB "dict" "tuple" = some false := by decide +kernel
theorem ki_dK_dict : kitB "dict" "dict" = some true := by decide +kernel
/-- the generator of a law's numbers: at b a list of three numbers, the last at most n -/
def bagO (x y z : Int) : HO := .lst [.int x, .int y, .int z]
structure BagOk (n : Nat) (x y z : Int) : Prop where
  x0 : 0 ≤ x
  y0 : 0 ≤ y
  y1 : y < 2147483648
  z0 : 0 ≤ z
  z1 : z ≤ (n : Int)
theorem BagOk.mono {n m : Nat} {x y z : Int} (h : BagOk n x y z) (e : n ≤ m) : BagOk m x y z := ⟨h.x0, h.y0, h.y1, h.z0, by have := h.z1; omega⟩
/-- take(bag, k): a number below k; the bag is changed, by one count at the most -/
def spTake : Sp := fun vs H Q _ => ∃ (b : Addr) (k : Int) (n : Nat) (x y z : Int), vs = [.ref b, .int k] ∧ H b = some (bagO x y z) ∧ BagOk n x y z ∧ n < 1000000 ∧ 0 < k ∧ k < 1073741824 ∧
  ∀ (d x' y' z' : Int) (H' : Hp), 0 ≤ d → d < k → BagOk (n + 1) x' y' z' → Keep [b] H H' → H' b = some (bagO x' y' z') → Q (.int d) H'
theorem atI_in {α : Type} {xs : List α} {d : Int} (h0 : 0 ≤ d) (h1 : d < (xs.length : Int)) : ∃ v, atI xs d = some v ∧ v ∈ xs := by
  obtain ⟨k, rfl⟩ := Int.eq_ofNat_of_zero_le h0
  have hk : k < xs.length := by omega
  exact ⟨xs[k], atI_nat (List.getElem?_eq_getElem hk), List.getElem_mem hk⟩
theorem size_ok {n : Nat} (h : n ≤ 1000000) : n < sizeLine := Nat.lt_of_le_of_lt h (by decide)
theorem size_le {n : Nat} (h : n ≤ 1000000) : n ≤ sizeLine := Nat.le_of_lt (size_ok h)
/-! ### texts by their codes -/
theorem len_app (x y : Str) : (x ++ y).length = x.length + y.length := by rw [len_tl, len_tl, len_tl, tl_append, List.length_append]
theorem joinL_nil : ∀ ps : List (List Nat), joinL [] ps = ps.flatten
  | [] => rfl
  | [p] => by simp [joinL]
  | p :: q :: r => by
    have ih := joinL_nil (q :: r)
    show p ++ ([] ++ joinL [] (q :: r)) = _
    rw [ih]
    simp
theorem tl_joinE (ss : List Str) : tl (Txt.join (Str.ofString "") ss) = (ss.map tl).flatten := by
  rw [join_eq, tl_join, show tl (Str.ofString "") = [] by decide +kernel, joinL_nil]
theorem sum_one : ∀ {ss : List Str}, (∀ s ∈ ss, s.length = 1) → (ss.map (·.length)).sum = ss.length
  | [], _ => rfl
  | s :: r, h => by
    rw [List.map_cons, List.sum_cons, sum_one fun t ht => h t (List.mem_cons_of_mem _ ht), h s List.mem_cons_self, List.length_cons]
    omega
theorem flat_one : ∀ {ss : List Str}, (∀ s ∈ ss, s.length = 1) → (ss.map tl).flatten.length = ss.length
  | [], _ => rfl
  | s :: r, h => by
    have h1 := h s List.mem_cons_self
    rw [len_tl] at h1
    rw [List.map_cons, List.flatten_cons, List.length_append, flat_one fun t ht => h t (List.mem_cons_of_mem _ ht), List.length_cons, h1]
    omega
theorem join_one {ss : List Str} (h : ∀ s ∈ ss, s.length = 1) : (Txt.join (Str.ofString "") ss).length = ss.length := by rw [len_tl, tl_joinE, flat_one h]
theorem tl_cutS (z : Str) (lo hi : Option Int) : tl (cutS z lo hi) = ((tl z).drop (HT.sIx z.length 0 lo)).take (HT.sIx z.length z.length hi - HT.sIx z.length 0 lo) := rfl
theorem cutS_len (z : Str) (lo hi : Option Int) : (cutS z lo hi).length ≤ z.length := by
  rw [len_tl, tl_cutS, List.length_take, List.length_drop, len_tl z]
  omega
theorem starts_one (x : Str) (c : Nat) : Txt.startswith x ⟨#[c]⟩ = true ↔ (tl x)[0]? = some c := by
  unfold Txt.startswith
  rw [Bool.and_eq_true, decide_eq_true_eq]
  exact PySem.StrLaws.subAt_one x c 0
/-! ### texts of plain signs -/
def Asc (s : Str) : Prop := ∀ c ∈ tl s, c < 128
theorem Asc.app {x y : Str} (a : Asc x) (b : Asc y) : Asc (x ++ y) := fun c hc => by
  rw [tl_append] at hc
  rcases List.mem_append.mp hc with h | h
  · exact a c h
  · exact b c h
theorem Asc.cut {x : Str} (a : Asc x) (lo hi : Option Int) : Asc (cutS x lo hi) := fun c hc => a c (List.mem_of_mem_drop (List.mem_of_mem_take (by rw [tl_cutS] at hc; exact hc)))
theorem Asc.one {c : Nat} (h : c < 128) : Asc ⟨#[c]⟩ := fun d hd => by
  have : d = c := by simpa using hd
  omega
theorem Asc.of {x : Str} (h : (tl x).all (fun c => decide (c < 128)) = true) : Asc x := fun c hc => by simpa using List.all_eq_true.mp h c hc
theorem Asc.joined {S : List Nat} : ∀ {ps : List (List Nat)}, (∀ c ∈ S, c < 128) → (∀ p ∈ ps, ∀ c ∈ p, c < 128) → ∀ c ∈ joinL S ps, c < 128
  | [], _, _, c, h => by simp [joinL] at h
  | [p], _, hp, c, h => hp p List.mem_cons_self c h
  | p :: q :: r, hS, hp, c, h => by
    rcases List.mem_append.mp (show c ∈ p ++ (S ++ joinL S (q :: r)) from h) with h | h
    · exact hp p List.mem_cons_self c h
    · rcases List.mem_append.mp h with h | h
      · exact hS c h
      · exact Asc.joined hS (fun t ht => hp t (List.mem_cons_of_mem _ ht)) c h
theorem Asc.join {y : Str} {ss : List Str} (a : Asc y) (h : ∀ s ∈ ss, Asc s) : Asc (Txt.join y ss) := by
  unfold Asc
  rw [join_eq, tl_join]
  refine Asc.joined a fun p hp => ?_
  obtain ⟨s, hs, rfl⟩ := List.mem_map.mp hp
  exact h s hs
theorem joinL_len (S : List Nat) : ∀ (ps : List (List Nat)), (joinL S ps).length ≤ (ps.map (·.length)).sum + ps.length * S.length
  | [] => by simp [joinL]
  | [p] => by simp [joinL]
  | p :: q :: r => by
    have ih := joinL_len S (q :: r)
    show (p ++ (S ++ joinL S (q :: r))).length ≤ _
    rw [List.length_append, List.length_append, List.map_cons, List.sum_cons, List.length_cons, Nat.add_one_mul]
    omega
theorem join_len (y : Str) (ss : List Str) : (Txt.join y ss).length ≤ (ss.map (·.length)).sum + ss.length * y.length := by
  have h := joinL_len (tl y) (ss.map tl)
  rw [join_eq, len_tl, tl_join, len_tl y]
  rw [List.length_map, List.map_map] at h
  rw [show ss.map (fun x => x.length) = ss.map ((fun x => x.length) ∘ tl) from List.map_congr_left fun s _ => len_tl s]
  exact h
theorem sum_le {ss : List Str} {k : Nat} (h : ∀ s ∈ ss, s.length ≤ k) : (ss.map (·.length)).sum ≤ ss.length * k := by
  induction ss with
  | nil => simp
  | cons s r ih =>
    rw [List.map_cons, List.sum_cons, List.length_cons, Nat.add_one_mul]
    have h1 := h s List.mem_cons_self
    have h2 := ih fun t ht => h t (List.mem_cons_of_mem _ ht)
    omega
theorem str_ok {s : Str} (a : Asc s) : PyData.strOk s = true := by
  unfold PyData.strOk
  rw [show s.cps.all (fun x => decide (x < 0x110000)) = (tl s).all (fun x => decide (x < 0x110000)) by simp]
  exact List.all_eq_true.mpr fun c hc => decide_eq_true (Nat.lt_trans (a c hc) (by decide))
def dStrs (ws : List Str) : PyData := .list (ws.map .str)
theorem lay_strs : ∀ {ws : List Str}, (∀ s ∈ ws, Asc s) → PyData.canLayAll0 (ws.map .str) = true
  | [], _ => rfl
  | s :: r, h => by
    rw [List.map_cons, PyData.canLayAll0, PyData.canLay0, str_ok (h s List.mem_cons_self), lay_strs fun t ht => h t (List.mem_cons_of_mem _ ht)]
    rfl
theorem depth_strs : ∀ ws : List Str, PyData.depthAll (ws.map .str) = 0
  | [] => rfl
  | s :: r => by rw [List.map_cons, PyData.depthAll, PyData.depth, depth_strs r]; rfl
theorem shaped_strs {ws : List Str} (h : ∀ s ∈ ws, Asc s) : SeqAt.shaped (dStrs ws) = true := by
  unfold SeqAt.shaped dStrs
  rw [PyData.canLay0, lay_strs h, PyData.depth, depth_strs]
  rfl
theorem dpAll_strs {K : PySem.W.Frag} {H : Hp} : ∀ ws : List Str, DpAll K H (ws.map V.str) (ws.map .str)
  | [] => .nil
  | s :: r => .cons (.str s) (dpAll_strs r)
theorem dp_strs {K : PySem.W.Frag} {H : Hp} {a : Addr} {ws : List Str} (h : SqL K H a (ws.map V.str)) : Dp K H (.ref a) (dStrs ws) := .lst h (dpAll_strs ws)
theorem eqv_strs : ∀ ws : List Str, PyData.eqvAll (ws.map .str) (ws.map .str) = true
  | [] => rfl
  | s :: r => by rw [List.map_cons, PyData.eqvAll, eqv_strs r, PyData.eqv]; simp
theorem eqv_dstrs (ws : List Str) : PyData.eqv (dStrs ws) (dStrs ws) = true := by
  unfold dStrs
  rw [PyData.eqv, eqv_strs]
theorem in_strs (x : Str) : ∀ ws : List Str, inV (.str x) (ws.map V.str) = decide (x ∈ ws)
  | [] => rfl
  | s :: r => by
    have ih := in_strs x r
    unfold inV at ih ⊢
    rw [List.map_cons, List.any_cons, ih]
    show ((s == x) || decide (x ∈ r)) = _
    by_cases h : s = x
    · subst h; simp
    · simp [h, Ne.symm h]
theorem flat_strs (ws : List Str) : (ws.map V.str).all flatV = true := by
  rw [List.all_map]
  exact List.all_eq_true.mpr fun _ _ => rfl
/-- keywords at a call of a def without defaults -/
theorem kbF {K : PySem.W.Frag} {x qual : Str} {st : Stmt} {f : Addr} {fd : FuncData} {ps : List Str} (F : Fun K x qual st f fd) (n : Nat) (ks : List Str) (g : {α : Type} → List α → List α → List α)
    (hrel : ∀ {vs zs : List V} {us ws : List Value}, Vals vs us → Vals zs ws → Vals (g vs zs) (g us ws))
    (h : ∀ (kV doc pm : Value) (an : Option Addr) (cdv ct : Value) (us ws : List Value), us.length = n → ws.length = ks.length →
      bindArgs (PySem.W.fnOf x qual (defArgs st) (defBody st) (defScope st) .none kV doc pm an cdv ct) ⟨us, ks.zip ws⟩ = pure (ps.zip (g us ws))) : KBn K fd ps n ks (fun us ws => g us ws) (fun vs zs => g vs zs) := by
  obtain ⟨oc, od, kV, doc, pm, an, cdv, ct, osl, rfl, lk, hcd⟩ := F.ex
  exact ⟨fun s us ws X l1 l2 => .of_eq (h kV doc pm an cdv ct us ws l1 l2), fun r1 r2 => hrel r1 r2⟩
/-- isinstance(x, (a, b)) -/
theorem kit2 {K : PySem.W.Frag} {t a b : String} {r1 r2 : Bool} (h1 : kitB t a = some r1) (h2 : kitB t b = some r2) : PySem.W.kitAny K (.type t) [.type a, .type b] = some (r1 || r2) := by
  refine kitAny_cons (kit_ty h1) (fun e => ?_) (fun e => by rw [e]; rfl)
  subst e
  refine kitAny_cons (kit_ty h2) (fun e => by rw [e]; rfl) (fun e => by rw [e]; rfl)
theorem eqv_nil : ∀ ws : List Str, PyData.eqv (dStrs ws) (dStrs []) = decide (ws = [])
  | [] => rfl
  | s :: r => rfl
/-! ### signs as texts -/
def sg (l : List Nat) : List Str := l.map fun d => ⟨#[d]⟩
theorem sg_one {l : List Nat} : ∀ s ∈ sg l, s.length = 1 := fun s hs => by
  obtain ⟨d, _, rfl⟩ := List.mem_map.mp hs
  rfl
theorem sg_len (l : List Nat) : (sg l).length = l.length := List.length_map _
theorem sg_asc {l : List Nat} (h : ∀ c ∈ l, c < 128) : ∀ s ∈ sg l, Asc s := fun s hs => by
  obtain ⟨d, hd, rfl⟩ := List.mem_map.mp hs
  exact Asc.one (h d hd)
theorem tl_join_sg : ∀ l : List Nat, ((sg l).map tl).flatten = l
  | [] => rfl
  | c :: r => by
    have ih := tl_join_sg r
    show ([c] ++ ((sg r).map tl).flatten) = c :: r
    rw [ih]
    rfl
theorem sg_app (l : List Nat) (c : Nat) : (sg (l ++ [c])).map V.str = (sg l).map V.str ++ [.str ⟨#[c]⟩] := by
  unfold sg
  rw [List.map_append, List.map_append]
  rfl
theorem chr_inj {c d : Nat} (h : (⟨#[c]⟩ : Str) = ⟨#[d]⟩) : c = d := by
  have := congrArg tl h
  simpa using this
theorem ifC {A B : Prop} {c d : Nat} (h1 : c = d → A) (h2 : c ≠ d → B) : if decide (V.str ⟨#[c]⟩ = V.str ⟨#[d]⟩) = true then A else B := ifVS (fun h => h1 (chr_inj h)) fun h => h2 fun e => h (by rw [e])
theorem ifCn {A B : Prop} {c d : Nat} (h1 : c ≠ d → A) (h2 : c = d → B) : if (!decide (V.str ⟨#[c]⟩ = V.str ⟨#[d]⟩)) = true then A else B := ifVSn (fun h => h1 fun e => h (by rw [e])) fun h => h2 (chr_inj h)
theorem filt_in {pre : List Nat} {c d : Nat} (h : d ≠ c) : (pre ++ [d]).filter (fun x => decide (x ≠ c)) = pre.filter (fun x => decide (x ≠ c)) ++ [d] := by
  rw [List.filter_append, List.filter_cons, if_pos (by simpa using h)]
  rfl
theorem filt_out {pre : List Nat} {c d : Nat} (h : d = c) : (pre ++ [d]).filter (fun x => decide (x ≠ c)) = pre.filter (fun x => decide (x ≠ c)) := by
  rw [List.filter_append, List.filter_cons, if_neg (by simpa using h)]
  simp
theorem filt_asc {l : List Nat} {p : Nat → Bool} (h : ∀ c ∈ l, c < 128) : ∀ c ∈ l.filter p, c < 128 := fun c hc => h c (List.mem_filter.mp hc).1
theorem tl_joined_sg (l : List Nat) : tl (Txt.join (Str.ofString "") (sg l)) = l := by rw [tl_joinE, tl_join_sg]
/-! ### a text split at a sign -/
theorem split_tl (s : Str) {c : Nat} (h : c < 256) : (Txt.split s ⟨#[c]⟩).map tl = spl [c] 0 [] (tl s) := split_spl s ⟨#[c]⟩ (by simp) (kind_ok (by simpa using h))
theorem spl_asc : ∀ (l acc : List Nat) (c : Nat), (∀ d ∈ l, d < 128) → (∀ d ∈ acc, d < 128) → ∀ p ∈ spl [c] 0 acc l, ∀ d ∈ p, d < 128
  | [], acc, c, _, ha, p, hp, d, hd => by
    rw [spl_nil] at hp
    rw [List.mem_singleton.mp hp] at hd
    exact ha d hd
  | x :: r, acc, c, hl, ha, p, hp, d, hd => by
    have hr : ∀ d ∈ r, d < 128 := fun d h => hl d (List.mem_cons_of_mem _ h)
    by_cases e : pre [c] (x :: r) = true
    · rw [spl_hit e] at hp
      rcases List.mem_cons.mp hp with rfl | hp
      · exact ha d hd
      · exact spl_asc r [] c hr (fun _ h => by simp at h) p hp d hd
    · rw [spl_miss (by simpa using e)] at hp
      refine spl_asc r (acc ++ [x]) c hr (fun d h => ?_) p hp d hd
      rcases List.mem_append.mp h with h | h
      · exact ha d h
      · rw [List.mem_singleton.mp h]; exact hl x List.mem_cons_self
theorem split_asc {s : Str} {c : Nat} (h : c < 256) (a : Asc s) : ∀ w ∈ Txt.split s ⟨#[c]⟩, Asc w := fun w hw => by
  have : tl w ∈ (Txt.split s ⟨#[c]⟩).map tl := List.mem_map_of_mem hw
  rw [split_tl s h] at this
  exact spl_asc (tl s) [] c a (fun _ h => by simp at h) _ this
theorem spl_len : ∀ (l acc : List Nat) (c : Nat), (spl [c] 0 acc l).length ≤ l.length + 1
  | [], acc, c => by rw [spl_nil]; simp
  | x :: r, acc, c => by
    by_cases e : pre [c] (x :: r) = true
    · rw [spl_hit e, List.length_cons, List.length_cons]
      have := spl_len r [] c
      exact Nat.succ_le_succ this
    · rw [spl_miss (by simpa using e), List.length_cons]
      have := spl_len r (acc ++ [x]) c
      omega
theorem split_len {s : Str} {c : Nat} (h : c < 256) : (Txt.split s ⟨#[c]⟩).length ≤ s.length + 1 := by
  have := spl_len (tl s) [] c
  rw [← split_tl s h, List.length_map] at this
  rw [len_tl]
  exact this
theorem pre_one {c x : Nat} {r : List Nat} : pre [c] (x :: r) = decide (x = c) := by
  unfold pre
  by_cases h : x = c <;> simp [h]
/-! ### text * number -/
theorem op_mul_str {X : Cx} : OpR X (binaryOp .Mult) (fun x y H Q => ∃ i j, x = .str i ∧ y = .int j ∧ (0 ≤ j ∧ j ≤ 10000 ∧ i.length ≤ 1000) ∧ Q (.str (Txt.mul i j)) H) := fun pins s σ H x y v u Q I rx ry h => by
  obtain ⟨i, j, rfl, rfl, ⟨h0, h1, h2⟩, q⟩ := h
  obtain ⟨t, rfl⟩ := rx
  obtain ⟨t', rfl⟩ := ry
  refine SB.mul ⟨?_, fun h3 h4 => ?_, fun h3 h4 => ?_⟩ fun t' k => ⟨.str (Txt.mul i j), H, I.tok _, ⟨_, rfl⟩, q⟩
  · simp
    omega
  · have h5 : (i.length : Int) * j ≤ 1000 * 10000 := Int.mul_le_mul (by omega) h1 h0 (by decide)
    have h6 : (i.length : Int) ≤ (2 ^ 63 - 1) / j := Int.le_ediv_of_mul_le (by omega) (by omega)
    omega
  · have h5 : i.length * j.toNat ≤ 1000 * 10000 := Nat.mul_le_mul h2 (by omega)
    have h6 : i.length * j.toNat ≤ sizeLine := Nat.le_trans h5 (by decide)
    unfold Builtin.Str.tooLong
    exact decide_eq_false (by omega)
theorem fold_cps (a : Array Nat) : ∀ (k : Nat) (acc : Array Nat), ((List.replicate k a).foldl (fun x y => x ++ y) acc).toList = acc.toList ++ (List.replicate k a.toList).flatten
  | 0, acc => by simp
  | k + 1, acc => by
    rw [List.replicate_succ, List.foldl_cons, fold_cps a k, List.replicate_succ, List.flatten_cons, Array.toList_append, List.append_assoc]
theorem flat_nil : ∀ k : Nat, (List.replicate k ([] : List Nat)).flatten = []
  | 0 => rfl
  | k + 1 => by rw [List.replicate_succ, List.flatten_cons, flat_nil k]; rfl
theorem tl_mul (x : Str) (n : Int) : tl (Txt.mul x n) = (List.replicate n.toNat (tl x)).flatten := by
  unfold Txt.mul
  split
  · rename_i h
    rw [show n.toNat = 0 by omega]
    rfl
  · split
    · rename_i h1 h2
      rcases Bool.or_eq_true_iff.mp h2 with h | h
      · have : n = 1 := by simpa using h
        subst this
        simp
      · have h3 : x.length = 0 := by simpa using h
        rw [len_tl] at h3
        rw [List.length_eq_zero_iff.mp h3, flat_nil]
    · show ((List.replicate n.toNat x.cps).foldl (fun x y => x ++ y) #[]).toList = _
      rw [fold_cps]
      rfl
theorem mul_len (x : Str) (n : Int) : (Txt.mul x n).length = x.length * n.toNat := by
  rw [len_tl, tl_mul, List.length_flatten, List.map_replicate, List.sum_replicate_nat, len_tl, Nat.mul_comm]
theorem Asc.mul {x : Str} (a : Asc x) (n : Int) : Asc (Txt.mul x n) := fun c hc => by
  rw [tl_mul] at hc
  obtain ⟨l, hl, hc⟩ := List.mem_flatten.mp hc
  rw [List.eq_of_mem_replicate hl] at hc
  exact a c hc
/-! ### loops by what is behind -/
section
variable {g : TG} {tb : TS} {D : Ends} {σ : L2.St} {H : Hp}
theorem for_str {s : Str} (Pv : List Nat → L2.St → Hp → Prop) (h0 : Pv [] σ H)
    (hs : ∀ pre c post σ H, tl s = pre ++ c :: post → Pv pre σ H → g (.str ⟨#[c]⟩) σ H fun σ2 H2 => tb { D with nx := Pv (pre ++ [c]), ct := Pv (pre ++ [c]), bk := D.nx } σ2 H2) (hd : ∀ σ H, Pv (tl s) σ H → D.nx σ H) :
    ∃ W : Nat → Nat → L2.St → Hp → Prop, (∃ m, W 0 m σ H) ∧ ∀ i m σ H, W i m σ H →
      ((Its s).stop i H ∧ D.nx σ H) ∨ ((Its s).go i H ∧ ∃ N : L2.St → Hp → Prop, (∀ σ' H', N σ' H' → ∃ m', m' < m ∧ W (i + 1) m' σ' H') ∧ ∀ x H', (Its s).yld i H x H' → g x σ H' fun σ2 H2 => tb { D with nx := N, ct := N, bk := D.nx } σ2 H2) := by
  have hsz : s.cps.size = (tl s).length := by simp
  refine for_it walk_str (fun i σ H => Pv ((tl s).take i) σ H) (by simpa using h0) (fun _ _ _ _ _ => True.intro) ?_ (fun σ H p => hd σ H (by rw [hsz, List.take_length] at p; exact p))
  rintro i x σ H H' hi p ⟨rfl, c, hc, rfl⟩
  have hc' : (tl s)[i]? = some c := by simpa using hc
  have hl : i < (tl s).length := by omega
  have e : tl s = (tl s).take i ++ c :: (tl s).drop (i + 1) := by
    have h2 : (tl s)[i] = c := by rw [List.getElem?_eq_getElem hl] at hc'; exact Option.some.inj hc'
    rw [← h2, ← List.drop_eq_getElem_cons hl, List.take_append_drop]
  have e2 : (tl s).take (i + 1) = (tl s).take i ++ [c] := by rw [List.take_add_one, hc']; rfl
  rw [e2]
  exact hs _ c _ σ _ e p
theorem for_rg {lo : Int} {n : Nat} (Pv : Nat → L2.St → Hp → Prop) (h0 : Pv 0 σ H)
    (hs : ∀ i σ H, i < n → Pv i σ H → g (.int (lo + i)) σ H fun σ2 H2 => tb { D with nx := Pv (i + 1), ct := Pv (i + 1), bk := D.nx } σ2 H2) (hd : ∀ σ H, Pv n σ H → D.nx σ H) :
    ∃ W : Nat → Nat → L2.St → Hp → Prop, (∃ m, W 0 m σ H) ∧ ∀ i m σ H, W i m σ H →
      ((Itr lo n).stop i H ∧ D.nx σ H) ∨ ((Itr lo n).go i H ∧ ∃ N : L2.St → Hp → Prop, (∀ σ' H', N σ' H' → ∃ m', m' < m ∧ W (i + 1) m' σ' H') ∧ ∀ x H', (Itr lo n).yld i H x H' → g x σ H' fun σ2 H2 => tb { D with nx := N, ct := N, bk := D.nx } σ2 H2) := for_range Pv h0 hs hd
theorem for_li {K : PySem.W.Frag} {a : Addr} {xs : List V} (Pv : List V → L2.St → Hp → Prop) (h0 : Pv [] σ H) (hl : ∀ pre post σ H, xs = pre ++ post → Pv pre σ H → SqL K H a xs)
    (hs : ∀ pre x post σ H, xs = pre ++ x :: post → Pv pre σ H → g x σ H fun σ2 H2 => tb { D with nx := Pv (pre ++ [x]), ct := Pv (pre ++ [x]), bk := D.nx } σ2 H2) (hd : ∀ σ H, Pv xs σ H → D.nx σ H) :
    ∃ W : Nat → Nat → L2.St → Hp → Prop, (∃ m, W 0 m σ H) ∧ ∀ i m σ H, W i m σ H →
      ((Itl K a).stop i H ∧ D.nx σ H) ∨ ((Itl K a).go i H ∧ ∃ N : L2.St → Hp → Prop, (∀ σ' H', N σ' H' → ∃ m', m' < m ∧ W (i + 1) m' σ' H') ∧ ∀ x H', (Itl K a).yld i H x H' → g x σ H' fun σ2 H2 => tb { D with nx := N, ct := N, bk := D.nx } σ2 H2) := by
  refine for_it (walk_list (xs := xs)) (fun i σ H => Pv (xs.take i) σ H) (by simpa using h0) (fun i σ H _ p => hl (xs.take i) (xs.drop i) σ H (List.take_append_drop i xs).symm p) ?_ (fun σ H p => hd σ H (by rw [List.take_length] at p; exact p))
  rintro i x σ H H' hi p ⟨rfl, hc⟩
  have e : xs = xs.take i ++ x :: xs.drop (i + 1) := by
    have h2 : xs[i] = x := by rw [List.getElem?_eq_getElem hi] at hc; exact Option.some.inj hc
    rw [← h2, ← List.drop_eq_getElem_cons hi, List.take_append_drop]
  have e2 : xs.take (i + 1) = xs.take i ++ [x] := by rw [List.take_add_one, hc]; rfl
  rw [e2]
  exact hs _ x _ σ _ e p
end
section
variable {g : TG} {tt : TT} {te : TE} {vs : List Nat} {σ : L2.St} {H1 : Hp} {D : Addr} {Qd : Hp → Prop}
theorem lc_rg {lo : Int} {n : Nat} (Pv : Nat → Hp → Prop) (h0 : Pv 0 (upd H1 D (.lst [])))
    (hs : ∀ i H, i < n → Pv i H → g (.int (lo + i)) (wipe σ vs) H fun σ2 H2 => wipe σ2 vs = wipe σ vs ∧ tt σ2 H2 fun b H3 =>
      if b = true then te σ2 H3 fun y H4 => ∃ acc, H4 D = some (.lst acc) ∧ acc.length < sizeLine ∧ Pv (i + 1) (upd H4 D (.lst (acc ++ [y]))) else Pv (i + 1) H3) (hd : ∀ H, Pv n H → Qd H) :
    ∃ W : Nat → Nat → Hp → Prop, (∃ m, W 0 m (upd H1 D (.lst []))) ∧ ∀ i m H, W i m H →
      ((Itr lo n).stop i H ∧ Qd H) ∨ ((Itr lo n).go i H ∧ ∃ Nx : Hp → Prop, (∀ H', Nx H' → ∃ m', m' < m ∧ W (i + 1) m' H') ∧ ∀ x H', (Itr lo n).yld i H x H' → g x (wipe σ vs) H' fun σ2 H2 => wipe σ2 vs = wipe σ vs ∧ tt σ2 H2 fun b H3 =>
        if b = true then te σ2 H3 fun y H4 => ∃ acc, H4 D = some (.lst acc) ∧ acc.length < sizeLine ∧ Nx (upd H4 D (.lst (acc ++ [y]))) else Nx H3) := lc_range Pv h0 hs hd
theorem lc_str {s : Str} (Pv : List Nat → Hp → Prop) (h0 : Pv [] (upd H1 D (.lst [])))
    (hs : ∀ pre c post H, tl s = pre ++ c :: post → Pv pre H → g (.str ⟨#[c]⟩) (wipe σ vs) H fun σ2 H2 => wipe σ2 vs = wipe σ vs ∧ tt σ2 H2 fun b H3 =>
      if b = true then te σ2 H3 fun y H4 => ∃ acc, H4 D = some (.lst acc) ∧ acc.length < sizeLine ∧ Pv (pre ++ [c]) (upd H4 D (.lst (acc ++ [y]))) else Pv (pre ++ [c]) H3) (hd : ∀ H, Pv (tl s) H → Qd H) :
    ∃ W : Nat → Nat → Hp → Prop, (∃ m, W 0 m (upd H1 D (.lst []))) ∧ ∀ i m H, W i m H →
      ((Its s).stop i H ∧ Qd H) ∨ ((Its s).go i H ∧ ∃ Nx : Hp → Prop, (∀ H', Nx H' → ∃ m', m' < m ∧ W (i + 1) m' H') ∧ ∀ x H', (Its s).yld i H x H' → g x (wipe σ vs) H' fun σ2 H2 => wipe σ2 vs = wipe σ vs ∧ tt σ2 H2 fun b H3 =>
        if b = true then te σ2 H3 fun y H4 => ∃ acc, H4 D = some (.lst acc) ∧ acc.length < sizeLine ∧ Nx (upd H4 D (.lst (acc ++ [y]))) else Nx H3) := by
  have hsz : s.cps.size = (tl s).length := by simp
  refine lc_it walk_str (fun i H => Pv ((tl s).take i) H) (by simpa using h0) (fun _ _ _ _ => True.intro) ?_ (fun H p => hd H (by rw [hsz, List.take_length] at p; exact p))
  rintro i x H H' hi p ⟨rfl, c, hc, rfl⟩
  have hc' : (tl s)[i]? = some c := by simpa using hc
  have hl : i < (tl s).length := by omega
  have e : tl s = (tl s).take i ++ c :: (tl s).drop (i + 1) := by
    have h2 : (tl s)[i] = c := by rw [List.getElem?_eq_getElem hl] at hc'; exact Option.some.inj hc'
    rw [← h2, ← List.drop_eq_getElem_cons hl, List.take_append_drop]
  have e2 : (tl s).take (i + 1) = (tl s).take i ++ [c] := by rw [List.take_add_one, hc']; rfl
  rw [e2]
  exact hs _ c _ _ e p
theorem lc_li {K : PySem.W.Frag} {a : Addr} {xs : List V} (Pv : List V → Hp → Prop) (h0 : Pv [] (upd H1 D (.lst []))) (hl : ∀ pre post H, xs = pre ++ post → Pv pre H → SqL K H a xs)
    (hs : ∀ pre x post H, xs = pre ++ x :: post → Pv pre H → g x (wipe σ vs) H fun σ2 H2 => wipe σ2 vs = wipe σ vs ∧ tt σ2 H2 fun b H3 =>
      if b = true then te σ2 H3 fun y H4 => ∃ acc, H4 D = some (.lst acc) ∧ acc.length < sizeLine ∧ Pv (pre ++ [x]) (upd H4 D (.lst (acc ++ [y]))) else Pv (pre ++ [x]) H3) (hd : ∀ H, Pv xs H → Qd H) :
    ∃ W : Nat → Nat → Hp → Prop, (∃ m, W 0 m (upd H1 D (.lst []))) ∧ ∀ i m H, W i m H →
      ((Itl K a).stop i H ∧ Qd H) ∨ ((Itl K a).go i H ∧ ∃ Nx : Hp → Prop, (∀ H', Nx H' → ∃ m', m' < m ∧ W (i + 1) m' H') ∧ ∀ x H', (Itl K a).yld i H x H' → g x (wipe σ vs) H' fun σ2 H2 => wipe σ2 vs = wipe σ vs ∧ tt σ2 H2 fun b H3 =>
        if b = true then te σ2 H3 fun y H4 => ∃ acc, H4 D = some (.lst acc) ∧ acc.length < sizeLine ∧ Nx (upd H4 D (.lst (acc ++ [y]))) else Nx H3) := by
  refine lc_it (walk_list (xs := xs)) (fun i H => Pv (xs.take i) H) (by simpa using h0) (fun i H _ p => hl (xs.take i) (xs.drop i) H (List.take_append_drop i xs).symm p) ?_ (fun H p => hd H (by rw [List.take_length] at p; exact p))
  rintro i x H H' hi p ⟨rfl, hc⟩
  have e : xs = xs.take i ++ x :: xs.drop (i + 1) := by
    have h2 : xs[i] = x := by rw [List.getElem?_eq_getElem hi] at hc; exact Option.some.inj hc
    rw [← h2, ← List.drop_eq_getElem_cons hi, List.take_append_drop]
  have e2 : xs.take (i + 1) = xs.take i ++ [x] := by rw [List.take_add_one, hc]; rfl
  rw [e2]
  exact hs _ x _ _ e p
end
end FR
set_option Elab.async false
set_option linter.all false
set_option maxRecDepth 100000
/-! names and paths; defs with a star parameter -/
namespace FR
open PySem PySem.Spec PyProof.Rows L2 TL
theorem Keep.trans {M : List Addr} {H H1 H2 : Hp} (a : Keep M H H1) (b : Keep M H1 H2) : Keep M H H2 := fun p o e hp => b p o (a p o e hp) hp
theorem Keep.nil {M : List Addr} {H H1 : Hp} (a : Keep [] H H1) : Keep M H H1 := fun p o e _ => a p o e (by simp)
theorem Ow.sel {H0 H : Hp} {M : List Addr} {L L' : List (Addr × HO)} (W : Ow H0 M H L) (h : L'.Sublist L) : Ow H0 M H L' := ⟨W.keep, fun p hp => W.has p (h.subset hp), (h.map _).nodup W.nd, fun p hp => W.fr p (h.subset hp)⟩
theorem Ow.fresh {H0 H : Hp} {M : List Addr} {L : List (Addr × HO)} {p : Addr} {o : HO} (W : Ow H0 M H ((p, o) :: L)) (h : ∀ x ∈ M, x ∈ L.map (·.1)) : H0 p = none := by
  rcases W.fr _ List.mem_cons_self with r | r
  · exact r
  · exact absurd (h _ r) (List.nodup_cons.mp W.nd).1
theorem Ow.anyN {H0 H H' : Hp} {M : List Addr} {L : List (Addr × HO)} {a p : Addr} {o o' o2 : HO} (W : Ow H0 M H L) (i : Nat) (e : L[i]? = some (a, o)) (k : Keep [a] H H') (h : H' a = some o') (hp : H p = none) (h2 : H' p = some o2) : Ow H0 M H' ((p, o2) :: L.set i (a, o')) where
  keep := (W.any1 i e k h).keep
  has := fun q hq => by
    rcases List.mem_cons.mp hq with rfl | hq
    · exact h2
    · exact (W.any1 i e k h).has q hq
  nd := by
    rw [List.map_cons, List.nodup_cons, map_set_fst e]
    refine ⟨fun hm => ?_, W.nd⟩
    obtain ⟨q, hq, e⟩ := List.mem_map.mp hm
    have := W.has q hq
    rw [show q.1 = p from e, hp] at this
    cases this
  fr := fun q hq => by
    rcases List.mem_cons.mp hq with rfl | hq
    · by_cases hm : p ∈ M
      · exact .inr hm
      · cases e0 : H0 p with
        | none => exact .inl rfl
        | some u =>
          have := W.keep p u e0 hm
          rw [hp] at this
          cases this
    · exact (W.any1 i e k h).fr q hq
/-- a small letter -/
def lc (c : Nat) : Bool := decide (97 ≤ c ∧ c ≤ 122)
theorem lc_alpha : ∀ c : Fin 128, lc c.1 = true → Unicode.isAlpha c.1 = true ∧ Unicode.isLower c.1 = true ∧ (Unicode.isUpper c.1 || Unicode.isTitle c.1) = false := by decide +kernel
theorem all_tl (s : Str) (p : Nat → Bool) : s.cps.all p = (tl s).all p := by simp
theorem any_tl (s : Str) (p : Nat → Bool) : s.cps.any p = (tl s).any p := by simp
theorem isascii_asc {s : Str} (a : Asc s) : Txt.isascii s = true := by
  show s.cps.all (· < 128) = true
  rw [all_tl]
  exact List.all_eq_true.mpr fun c hc => decide_eq_true (a c hc)
/-- a name -/
structure Nm (s : Str) : Prop where
  l0 : 1 ≤ s.length
  l1 : s.length ≤ 8
  lo : ∀ c ∈ tl s, lc c = true
theorem Nm.lt {s : Str} (h : Nm s) {c : Nat} (hc : c ∈ tl s) : 97 ≤ c ∧ c ≤ 122 := of_decide_eq_true (h.lo c hc)
theorem Nm.asc {s : Str} (h : Nm s) : Asc s := fun c hc => by have := h.lt hc; omega
theorem Nm.alpha {s : Str} (h : Nm s) : Txt.isalpha s = true := by
  show (decide (s.length > 0) && s.cps.all Unicode.isAlpha) = true
  rw [all_tl, Bool.and_eq_true, decide_eq_true_eq, List.all_eq_true]
  exact ⟨h.l0, fun c hc => (lc_alpha ⟨c, h.asc c hc⟩ (h.lo c hc)).1⟩
theorem Nm.lower {s : Str} (h : Nm s) : Txt.islower s = true := by
  show (s.cps.any Unicode.isLower && !s.cps.any fun c => Unicode.isUpper c || Unicode.isTitle c) = true
  rw [any_tl, any_tl, Bool.and_eq_true, List.any_eq_true, Bool.not_eq_true', List.any_eq_false]
  refine ⟨?_, fun c hc => by have := (lc_alpha ⟨c, h.asc c hc⟩ (h.lo c hc)).2.2; simpa using this⟩
  have h0 := h.l0
  rw [len_tl] at h0
  obtain ⟨c, hc⟩ := List.exists_mem_of_length_pos h0
  exact ⟨c, hc, (lc_alpha ⟨c, h.asc c hc⟩ (h.lo c hc)).2.1⟩
theorem slash : Str.ofString "/" = ⟨#[47]⟩ := by decide +kernel
theorem tl_slash : tl (Str.ofString "/") = [47] := by decide +kernel
theorem tl_emp : tl (Str.ofString "") = [] := by decide +kernel
/-- names behind slashes -/
def flat (ns : List Str) : List Nat := (ns.map fun s => 47 :: tl s).flatten
def cat (ns : List Str) : Str := ns.foldl (fun a n => (a ++ Str.ofString "/") ++ n) (Str.ofString "")
theorem cat_app (ns : List Str) (n : Str) : cat (ns ++ [n]) = (cat ns ++ Str.ofString "/") ++ n := by
  unfold cat
  rw [List.foldl_append]
  rfl
theorem tl_catF : ∀ (ns : List Str) (a : Str), tl (ns.foldl (fun a n => (a ++ Str.ofString "/") ++ n) a) = tl a ++ flat ns
  | [], a => by simp [flat]
  | n :: r, a => by
    rw [List.foldl_cons, tl_catF r, tl_append, tl_append, tl_slash]
    simp [flat]
theorem tl_cat (ns : List Str) : tl (cat ns) = flat ns := by
  unfold cat
  rw [tl_catF, tl_emp]
  rfl
def Nms (ns : List Str) : Prop := ∀ s ∈ ns, Nm s
theorem Nms.app {a b : List Str} (ha : Nms a) (hb : Nms b) : Nms (a ++ b) := fun s h => (List.mem_append.mp h).elim (ha s) (hb s)
theorem Nms.sub {a b : List Str} (h : Nms b) (s : ∀ x ∈ a, x ∈ b) : Nms a := fun x hx => h x (s x hx)
theorem Nms.take {a : List Str} (h : Nms a) (k : Nat) : Nms (a.take k) := h.sub fun _ => List.mem_of_mem_take
theorem Nms.drop {a : List Str} (h : Nms a) (k : Nat) : Nms (a.drop k) := h.sub fun _ => List.mem_of_mem_drop
theorem Nms.dropLast {a : List Str} (h : Nms a) : Nms a.dropLast := h.sub fun _ hx => (List.dropLast_subset _) hx
theorem Nms.asc {a : List Str} (h : Nms a) : ∀ s ∈ a, Asc s := fun s hs => (h s hs).asc
theorem flat_len : ∀ {ns : List Str}, Nms ns → (flat ns).length ≤ 9 * ns.length
  | [], _ => by simp [flat]
  | n :: r, h => by
    have ih := flat_len (ns := r) fun s hs => h s (List.mem_cons_of_mem _ hs)
    have h1 := (h n List.mem_cons_self).l1
    rw [len_tl] at h1
    show ((47 :: tl n) ++ flat r).length ≤ _
    rw [List.length_append, List.length_cons, List.length_cons]
    omega
theorem cat_len {ns : List Str} (h : Nms ns) : (cat ns).length ≤ 9 * ns.length := by
  rw [len_tl, tl_cat]
  exact flat_len h
def pathOf (ns : List Str) : Str := if ns = [] then Str.ofString "/" else cat ns
theorem pathOf_nil : pathOf [] = Str.ofString "/" := rfl
theorem pathOf_ne {ns : List Str} (h : ns ≠ []) : pathOf ns = cat ns := if_neg h
theorem path_len {ns : List Str} (h : Nms ns) : (pathOf ns).length ≤ 9 * ns.length + 1 := by
  by_cases e : ns = []
  · subst e
    decide +kernel
  · rw [pathOf_ne e]
    exact Nat.le_trans (cat_len h) (by omega)
theorem flat_cons (n : Str) (r : List Str) : flat (n :: r) = 47 :: (tl n ++ flat r) := by simp [flat]
theorem path_starts (ns : List Str) : Txt.startswith (pathOf ns) (Str.ofString "/") = true := by
  rw [slash, starts_one]
  cases ns with
  | nil => decide +kernel
  | cons n r => rw [pathOf_ne (by simp), tl_cat, flat_cons]; rfl
theorem path_slash {ns : List Str} (h : Nms ns) (e : ns ≠ []) : pathOf ns ≠ Str.ofString "/" := fun he => by
  have := congrArg tl he
  rw [pathOf_ne e, tl_cat, tl_slash] at this
  cases ns with
  | nil => exact e rfl
  | cons n r =>
    rw [flat_cons] at this
    have h0 := (h n List.mem_cons_self).l0
    rw [len_tl] at h0
    have h2 := congrArg List.length this
    simp at h2
    simp [h2.1] at h0
theorem cat_emp {ns : List Str} : cat ns = Str.ofString "" ↔ ns = [] := by
  constructor
  · intro h
    cases ns with
    | nil => rfl
    | cons n r =>
      have := congrArg tl h
      rw [tl_cat, flat_cons, tl_emp] at this
      cases this
  · rintro rfl
    rfl
theorem spl_word : ∀ (l acc r : List Nat), (∀ c ∈ l, c ≠ 47) → spl [47] 0 acc (l ++ r) = spl [47] 0 (acc ++ l) r
  | [], acc, r, _ => by simp
  | c :: l, acc, r, h => by
    rw [List.cons_append, spl_miss (by rw [pre_one]; exact decide_eq_false (h c List.mem_cons_self)), spl_word l _ r fun d hd => h d (List.mem_cons_of_mem _ hd)]
    simp
theorem spl_flat : ∀ (ns : List Str) (acc : List Nat), Nms ns → spl [47] 0 acc (flat ns) = acc :: ns.map tl
  | [], acc, _ => by
    show spl [47] 0 acc [] = _
    rw [spl_nil]
    rfl
  | n :: r, acc, h => by
    have hn := h n List.mem_cons_self
    rw [flat_cons, spl_hit (by rw [pre_one]; rfl), List.map_cons]
    show acc :: spl [47] 0 [] (tl n ++ flat r) = _
    rw [spl_word _ _ _ fun c hc => by have := hn.lt hc; omega, spl_flat r _ fun s hs => h s (List.mem_cons_of_mem _ hs)]
    rfl
theorem split_path {ns : List Str} (h : Nms ns) (e : ns ≠ []) : Txt.split (pathOf ns) (Str.ofString "/") = Str.ofString "" :: ns := by
  refine map_tl_inj ?_
  rw [slash, split_tl _ (by decide), pathOf_ne e, tl_cat, spl_flat _ _ h, List.map_cons, tl_emp]
theorem flat_join : ∀ {ns : List Str}, ns ≠ [] → 47 :: joinL [47] (ns.map tl) = flat ns
  | [], h => absurd rfl h
  | [s], _ => by
    rw [flat_cons]
    show 47 :: tl s = 47 :: (tl s ++ [])
    rw [List.append_nil]
  | s :: t :: r, _ => by
    have ih := flat_join (ns := t :: r) (by simp)
    rw [flat_cons, ← ih]
    rfl
theorem join_path (ns : List Str) : Str.ofString "/" ++ Txt.join (Str.ofString "/") ns = pathOf ns := by
  refine ext_tl ?_
  rw [tl_append, join_eq, tl_join, tl_slash]
  cases ns with
  | nil => decide +kernel
  | cons n r =>
    rw [pathOf_ne (by simp), tl_cat]
    exact flat_join (by simp)
theorem names_sum {ns : List Str} (h : Nms ns) : (ns.map (·.length)).sum ≤ ns.length * 8 := sum_le fun s hs => (h s hs).l1
theorem ix_listK {X : Cx} {K : PySem.W.Frag} (h : X.K = K) : IxR X (rIxL K) := h ▸ ix_list
/-! slices -/
theorem cutV_to (xs : List V) (k : Nat) : cutV xs none (some (k : Int)) = xs.take k := by
  show (xs.drop 0).take (HT.sIx xs.length xs.length (some (k : Int)) - 0) = _
  rw [HT.sIx_nat, List.drop_zero, Nat.sub_zero]
  by_cases h : k ≤ xs.length
  · rw [Nat.min_eq_left h]
  · rw [Nat.min_eq_right (by omega), List.take_of_length_le (Nat.le_refl _), List.take_of_length_le (by omega)]
theorem cutV_from (xs : List V) (k : Nat) : cutV xs (some (k : Int)) none = xs.drop k := by
  show (xs.drop (HT.sIx xs.length 0 (some (k : Int)))).take (xs.length - HT.sIx xs.length 0 (some (k : Int))) = _
  rw [HT.sIx_nat]
  by_cases h : k ≤ xs.length
  · rw [Nat.min_eq_left h, List.take_of_length_le (by rw [List.length_drop]; exact Nat.le_refl _)]
  · rw [Nat.min_eq_right (by omega), Nat.sub_self, List.take_zero, List.drop_of_length_le (by omega)]
theorem cutV_last (xs : List V) : cutV xs none (some (-1)) = xs.dropLast := by
  show (xs.drop 0).take (((-1 : Int) + (xs.length : Int)).toNat - 0) = _
  rw [List.drop_zero, Nat.sub_zero, List.dropLast_eq_take, show ((-1 : Int) + (xs.length : Int)).toNat = xs.length - 1 by omega]
theorem tl_cutTo (s : Str) (k : Nat) : tl (cutS s none (some (k : Int))) = (tl s).take k := by
  rw [tl_cutS]
  show ((tl s).drop 0).take (HT.sIx s.length s.length (some (k : Int)) - 0) = _
  rw [HT.sIx_nat, len_tl, List.drop_zero, Nat.sub_zero]
  by_cases h : k ≤ (tl s).length
  · rw [Nat.min_eq_left h]
  · rw [Nat.min_eq_right (by omega), List.take_of_length_le (Nat.le_refl _), List.take_of_length_le (by omega)]
theorem eqv_strs2 : ∀ a b : List Str, PyData.eqvAll (a.map .str) (b.map .str) = decide (a = b)
  | [], [] => rfl
  | [], _ :: _ => rfl
  | _ :: _, [] => rfl
  | x :: a, y :: b => by
    rw [List.map_cons, List.map_cons, PyData.eqvAll, eqv_strs2 a b, PyData.eqv]
    by_cases h : x = y
    · subst h
      simp
    · simp [h]
theorem eqv_lists (a b : List Str) : PyData.eqv (dStrs a) (dStrs b) = decide (a = b) := by
  unfold dStrs
  rw [PyData.eqv, eqv_strs2]
theorem shaped_names {ns : List Str} (h : Nms ns) : SeqAt.shaped (dStrs ns) = true := shaped_strs h.asc
/-! ### a walk over a tuple by what is behind -/
section
variable {g : TG} {tb : TS} {D : Ends} {σ : L2.St} {H : Hp}
theorem for_tu {K : PySem.W.Frag} {a : Addr} {xs : List V} (Pv : List V → L2.St → Hp → Prop) (h0 : Pv [] σ H) (hl : ∀ pre post σ H, xs = pre ++ post → Pv pre σ H → SqT K H a xs)
    (hs : ∀ pre x post σ H, xs = pre ++ x :: post → Pv pre σ H → g x σ H fun σ2 H2 => tb { D with nx := Pv (pre ++ [x]), ct := Pv (pre ++ [x]), bk := D.nx } σ2 H2) (hd : ∀ σ H, Pv xs σ H → D.nx σ H) :
    ∃ W : Nat → Nat → L2.St → Hp → Prop, (∃ m, W 0 m σ H) ∧ ∀ i m σ H, W i m σ H →
      ((Itt K a).stop i H ∧ D.nx σ H) ∨ ((Itt K a).go i H ∧ ∃ N : L2.St → Hp → Prop, (∀ σ' H', N σ' H' → ∃ m', m' < m ∧ W (i + 1) m' σ' H') ∧ ∀ x H', (Itt K a).yld i H x H' → g x σ H' fun σ2 H2 => tb { D with nx := N, ct := N, bk := D.nx } σ2 H2) := by
  refine for_it (walk_tup (xs := xs)) (fun i σ H => Pv (xs.take i) σ H) (by simpa using h0) (fun i σ H _ p => hl (xs.take i) (xs.drop i) σ H (List.take_append_drop i xs).symm p) ?_ (fun σ H p => hd σ H (by rw [List.take_length] at p; exact p))
  rintro i x σ H H' hi p ⟨rfl, hc⟩
  have e : xs = xs.take i ++ x :: xs.drop (i + 1) := by
    have h2 : xs[i] = x := by rw [List.getElem?_eq_getElem hi] at hc; exact Option.some.inj hc
    rw [← h2, ← List.drop_eq_getElem_cons hi, List.take_append_drop]
  have e2 : xs.take (i + 1) = xs.take i ++ [x] := by rw [List.take_add_one, hc]; rfl
  rw [e2]
  exact hs _ x _ σ _ e p
end
/-! ### defs with a star parameter, and their calls -/
theorem okStar {P : Program} {w : World} {K : PySem.W.Frag} {mg : Str → Option Value} {base : Heap} {x qual pv : Str} {st : Stmt} {f : Addr} {fd : FuncData} {N ps : List Str} {k : Nat} {sp : Sp} (F : L2.Fun K x qual st f fd) (S : FnScope N (ps ++ [pv]) (defScope st))
    (hb : ∀ (kV doc pm : Value) (an : Option Addr) (cdv ct : Value) (us rest : List Value), us.length = ps.length → bindArgs (PySem.W.fnOf x qual (defArgs st) (defBody st) (defScope st) .none kV doc pm an cdv ct) ⟨us ++ rest, []⟩ = (newTuple rest >>= fun t => pure (ps.zip us ++ [(pv, t)])))
    (hbody : ∀ (cdv : Value) (A : Around) (outer : List Env) (s : Shared) (H : Hp) (vs : List V) (Q : VK) (E : XK), Room k (A.deeper (envOfC qual (defScope st) s.heap.objs.size f cdv)) → sp vs H Q E →
      ∃ t, PSs (cxOf CX0 P w K mg base N qual (defScope st) f cdv A outer s H E).nox (defBody st) t ∧ t { nx := fun _ H' => Q .non H', rt := Q } (start N vs) H) :
    FnR P w K mg base CX0 (k + 1) f (fun vs H Q E => ∃ ws rest, vs = ws ++ rest ∧ ws.length = ps.length ∧ rest.length ≤ sizeLine ∧ ∀ p, H p = Option.none → sp (ws ++ [V.ref p]) (upd H p (.tup rest)) Q E) := by
  obtain ⟨oc, od, kV, doc, pm, an, cdv, ct, osl, rfl, lk, hcd⟩ := F.ex
  refine StX.fn_star lk hcd S StX.cxUp_none (hb kV doc pm an cdv ct) fun A outer s H vs Q E hr hsp => ?_
  obtain ⟨t, h, q⟩ := hbody cdv A outer s H vs Q E hr hsp
  exact ⟨t, h.nox, q⟩
section
variable {X : Cx} {CX : CXT} {k : Nat} {f : Addr} {sp : Sp} {E : XK} {x : Str} {e : Expr} {es : List Expr} {t : TA} {p pos : Pos}
theorem pe_callRN (F : FnR X.prog X.w X.K X.mg X.base CX k f sp) (hr : Room k X.A) (hk : PySem.W.keepIn X.K (.ref f) = true) (hg : Gl X x) (hm : X.mg x = some (.ref f)) (hx : Passes CX X E) (ha : PA X (e :: es) t) (hd : (x == ("__debug__" : Str)) = false := by decide)
    (he : starEach (e :: es) X.env = (false, eval e X.env) :: starEach es X.env := by rfl) (hpl : (backTo pos (starEach es X.env)).any (·.1) = false := by rfl) :
    PE X (.Call (.Name x p) (e :: es) [] pos) (fun σ H Q => t σ H fun vs H1 => sp vs H1 Q E) := by
  refine ⟨fun pins s σ H Q I h => ?_⟩
  refine wpAny_Call_Name_kw (ld_glob I hg hm ?_ hd)
  refine PySem.W.callWith_K (h₀ := X.base) I.ok.mod.kin hk (thn (ha.run pos pins s σ H _ I h) fun us s1 ⟨vs, H1, I1, r, q⟩ => ⟨I1.kIn, ?_⟩) he hpl
  exact wpAny_call (run_fnR F hr hx I1 r q)
end

end FR
set_option Elab.async false
set_option linter.all false
set_option maxRecDepth 100000
namespace FR
open PySem PySem.Spec PyProof.Rows L2 TL
theorem pe_joinK {X : Cx} {K : PySem.W.Frag} {o e : Expr} {to te : TE} {apos pos : Pos} (h : X.K = K) (ho : PE X o to) (he : PE X e te) (hs : starEach [e] X.env = [(false, eval e X.env)] := by rfl) (hbase : attributeBase o "join" X.env (eval o X.env) = eval o X.env := by rfl) (hline : (apos.endLine == pos.line) = true := by rfl) :
    PE X (.Call (.Attribute o "join" apos) [e] [] pos) (tM1 (fun x xs H Q => ∃ a p, ∃ ys : List Str, x = .str a ∧ xs = [.ref p] ∧ (SqL K H p (ys.map V.str) ∨ SqT K H p (ys.map V.str)) ∧
      (ys.map (·.length)).sum + ys.length * a.length ≤ 16777216 ∧ Q (.str (Txt.join a ys)) H) to te) := h ▸ pe_join ho he hs hbase hline
end FR
set_option Elab.async false
set_option linter.all false
set_option maxRecDepth 100000
/-! promises that also know that no repr is under way; repr of data -/
namespace FR
open PySem PySem.Spec PyProof.Rows L2 TL
def FnG (P : Program) (w : World) (K : PySem.W.Frag) (mg : Str → Option Value) (base : Heap) (CX : CXT) (k : Nat) (f : Addr) (sp : Sp) : Prop :=
  ∀ (A : Around) (outer : List Env) (s : Shared) (H : Hp) (us : List Value) (vs : List V) (Q : VK) (E : XK), A.guards = some [] → Room k A → Env0 P w K mg base A outer s H → Vals vs us → sp vs H Q E → codeAny (model P w) A (.call (.ref f) ⟨us, []⟩) (CR CX outer P w H s Q E) s
section
variable {P : Program} {w : World} {K : PySem.W.Frag} {mg : Str → Option Value} {base : Heap} {CX : CXT} {k : Nat} {f : Addr} {sp : Sp}
theorem FnG.of (F : FnR P w K mg base CX k f sp) : FnG P w K mg base CX k f sp := fun A outer s H us vs Q E _ hr e0 r hs => F A outer s H us vs Q E hr e0 r hs
theorem okG {x qual : Str} {st : Stmt} {fd : FuncData} {N ps : List Str} (F : L2.Fun K x qual st f fd) (S : FnScope N ps (defScope st)) (B : Binds K fd ps []) (hlen : ∀ vs H Q E, sp vs H Q E → vs.length = ps.length)
    (hbody : ∀ (cdv : Value) (A : Around) (outer : List Env) (s : Shared) (H : Hp) (vs : List V) (Q : VK) (E : XK), A.guards = some [] → Room k (A.deeper (envOfC qual (defScope st) s.heap.objs.size f cdv)) → sp vs H Q E →
      ∃ t, PSs (cxOf CX P w K mg base N qual (defScope st) f cdv A outer s H E) (defBody st) t ∧ t { nx := fun _ H' => Q .non H', rt := Q } (start N vs) H) : FnG P w K mg base CX (k + 1) f sp := by
  intro A outer s H us vs Q E hg hr e0 r hsp
  obtain ⟨oc, od, kV, doc, pm, an, cdv, ct, osl, rfl, lk, hcd⟩ := F.ex
  have hv : vs.length = ps.length := hlen _ _ _ _ hsp
  have hu : us.length = ps.length := by rw [← r.length]; exact hv
  have KI : K.In s.heap := e0.mod.kin.keeps fun b o e => (e0.bs b o e).1
  have b0 := B s us KI (by rw [List.append_nil]; exact hu)
  rw [List.append_nil] at b0
  refine StX.run_bnd lk hcd S hr e0 (G := fun xs H2 => xs = vs ∧ H2 = H) (fun A' Ex Q' h => ?_) fun s2 H2 xs ⟨ex, eH⟩ hr' => ?_
  · exact b0 _ _ _ _ (h s H vs us e0 Un.refl rfl (fun _ _ z => z) r hv ⟨rfl, rfl⟩)
  · subst ex eH
    exact hbody cdv A outer s2 _ _ Q E hg hr' hsp
end
section
variable {X : Cx} {CX : CXT} {k : Nat} {f : Addr} {sp : Sp} {E : XK} {x : Str} {e : Expr} {es : List Expr} {t : TA} {p pos : Pos}
theorem pe_callG (F : FnG X.prog X.w X.K X.mg X.base CX k f sp) (hgd : X.A.guards = some []) (hr : Room k X.A) (hk : PySem.W.keepIn X.K (.ref f) = true) (hg : Gl X x) (hm : X.mg x = some (.ref f)) (hx : Passes CX X E) (ha : PA X (e :: es) t) (hd : (x == ("__debug__" : Str)) = false := by decide)
    (he : starEach (e :: es) X.env = (false, eval e X.env) :: starEach es X.env := by rfl) (hpl : (backTo pos (starEach es X.env)).any (·.1) = false := by rfl) :
    PE X (.Call (.Name x p) (e :: es) [] pos) (fun σ H Q => t σ H fun vs H1 => sp vs H1 Q E) := ⟨fun pins s σ H Q I h => by
  refine wpAny_Call_Name_kw (ld_glob I hg hm (PySem.W.callWith_K (h₀ := X.base) I.ok.mod.kin hk (thn (ha.run pos pins s σ H _ I h) fun us s1 hz => ?_) he hpl) hd)
  obtain ⟨vs, H1, I1, r, q⟩ := hz
  refine ⟨I1.kIn, wpAny_call (codeAny_mono (F X.A X.stack s1 H1 us vs Q E hgd hr I1.env0 r q) fun rr s' hq => ?_)⟩
  match rr, hq with
  | .error ee, hq => exact hx pins σ H1 s1 ee s' I1 hq
  | .ok (.ret u), hq => exact I1.after hq
  | .ok .next, hq => exact hq.elim
  | .ok .brk, hq => exact hq.elim
  | .ok .cont, hq => exact hq.elim⟩
/-- repr of data without dicts -/
def rReprD (K : PySem.W.Frag) : List V → Hp → VK → Prop := fun xs H Q => ∃ (p : Addr) (d : PyData), xs = [.ref p] ∧ Dp K H (.ref p) d ∧ d.showable = true ∧ d.hasDict = false ∧ d.depth ≤ 50 ∧ d.shown.length ≤ sizeLine ∧ Q (.str d.shown) H
theorem call_reprD (hgd : X.A.guards = some []) (hu : X.A.units + 65 < cLine) : CallR X (.builtin "repr") (rReprD X.K) := fun pins s σ H xs us Q I r h => by
  obtain ⟨p, d, rfl, hd, hs, hnd, hdp, hz, q⟩ := h
  obtain ⟨u, rfl, ru⟩ : ∃ u, us = [u] ∧ RelV (.ref p) u := by
    cases r with
    | cons a b => cases b; exact ⟨_, rfl, a⟩
  cases (show u = Value.ref p from ru)
  obtain ⟨as, rd⟩ := Dp.reads I d _ _ hd ru
  exact repr_of_reads' rd hs (fun e => by rw [hnd] at e; cases e) hgd (by omega) (fun _ _ e => e) (fun h' u tk hk => ⟨.str d.shown, H, I.kept hk, ⟨_, rfl⟩, q⟩) hz
end
/-! ### the end of a row, for such a promise -/
theorem law_callG {P : Program} {w : World} {K : PySem.W.Frag} {mg mb : Str → Option Value} {k : Nat} {fa a : Addr} {sp : Sp} {s1 : Shared} {vs : List Value} {ns : List Int}
    (KX : K.In s1.heap) (hns : s1.heap.Ns mainGlobals mg) (hb : s1.heap.Ns builtinsNs mb) (hbb : ∀ x : Str, x ≠ "__name__" → mb x = bootBuiltins x) (hlim : s1.heap.NoLimit) (hg : s1.gens = #[])
    (ha : s1.heap.get? a = some { cls := .type "list", data := .seq vs.toArray }) (hi : IntsAre vs ns) (hl : ns.length ≤ sizeLine) (hr : Room k callerA)
    (F : ∀ base : Heap, K.In base → base.Ns mainGlobals mg → FnG P w K mg base CX0 k fa sp)
    (hsp : ∀ H : Hp, Only H → SqL K H a (ns.map V.int) → sp [.ref a] H (fun v _ => v = .bl true) fun _ _ _ => False) :
    codeAny (model P w) callerA (.call (.ref fa) ⟨[.ref a], []⟩) (fun r s' => r = .ok (.ret (.bool true)) ∧ OldK s1.heap s'.heap ∧ s'.os = s1.os ∧ AllBare s'.gens) s1 := by
  have rv := vals_ints hi
  have lv := hi.length
  have main : ∀ H : Hp, Only H → SqL K H a (ns.map V.int) → HOk P w H s1.heap → (∀ b, H b ≠ none → b = a) → (H a ≠ none → K.lookup a = none) →
      codeAny (model P w) callerA (.call (.ref fa) ⟨[.ref a], []⟩) (fun r s' => r = .ok (.ret (.bool true)) ∧ OldK s1.heap s'.heap ∧ s'.os = s1.os ∧ AllBare s'.gens) s1 := by
    intro H hO hS hok hA hK
    have free : ∀ {b : Addr} {o : Obj} {es : Array DictEntry} {ep : Nat}, s1.heap.get? b = some o → o.data = .dict es ep → H b = none := by
      intro b o es ep e d
      refine Classical.byContradiction fun q => ?_
      cases hA b q
      cases ha.symm.trans e
      cases d
    have nsT : ∀ {b : Addr} {m : Str → Option Value}, s1.heap.Ns b m → (hidT s1.heap H).Ns b m := by
      intro b m ⟨o, es, ep, e, d, r⟩
      exact ⟨o, es, ep, hidT_get e (free e d), d, r⟩
    have KT : K.In (hidT s1.heap H) := by
      intro b o e
      refine hidT_get (KX b o e) (Classical.byContradiction fun q => ?_)
      cases hA b q
      cases (hK q).symm.trans e
    have md : Mod K mg (hidT s1.heap H) := ⟨KT, nsT hns, ⟨mb, nsT hb, hbb⟩, hlim.elim fun mc hc => ⟨mc, nsT hc.1, hc.2⟩⟩
    have en : Env0 P w K mg (hidT s1.heap H) callerA [] s1 H := ⟨rfl, md, fun _ _ e => of_hidT e, Nat.le_of_eq (hidT_size ..), True.intro, fun _ hb => (List.not_mem_nil hb).elim, hok, AllBare.of_eq hg⟩
    refine codeAny_mono (F _ KT (nsT hns) callerA [] s1 H [.ref a] [.ref a] _ _ rfl hr en (.cons rfl .nil) (hsp H hO hS)) fun r s' h => ?_
    match r, h with
    | .error e, h => exact h.elim
    | .ok .next, h => exact h.elim
    | .ok .brk, h => exact h.elim
    | .ok .cont, h => exact h.elim
    | .ok (.ret u), h =>
      obtain ⟨v, H', os, bare, un, hok', rr, q⟩ := h
      cases (show v = .bl true from q)
      cases (show u = Value.bool true from rr)
      refine ⟨rfl, OldK.of_keep fun b o e => ?_, os, bare⟩
      rcases hO b with z | ⟨ob, xs, z⟩
      · exact un.keep b o e z (fun y => (List.not_mem_nil y).elim) (List.not_mem_nil)
      · have t1 := (hok b _ z).1
        have t2 := (hok' b _ (un.frzs b ob _ z)).1
        rw [e] at t1
        cases t1
        exact t2
  cases hk : K.lookup a with
  | some o =>
    cases ha.symm.trans (KX a o hk)
    exact main (fun _ => none) (fun _ => Or.inl rfl) (Or.inr ⟨_, vs.toArray, _, hk, rfl, rfl, rfl, by rw [List.size_toArray, lv]; exact hl, by simpa using rv⟩) (fun b u z => nomatch (show (none : Option HO) = some u from z)) (fun b z => (z rfl).elim) (fun z => (z rfl).elim)
  | none =>
    have hs : ∀ b : Addr, b = a → (if b = a then some (HO.frz { cls := .type "list", data := .seq vs.toArray } (.lst (ns.map V.int))) else none) = some (HO.frz { cls := .type "list", data := .seq vs.toArray } (.lst (ns.map V.int))) := fun b e => if_pos e
    have hn : ∀ b : Addr, b ≠ a → (if b = a then some (HO.frz { cls := .type "list", data := .seq vs.toArray } (.lst (ns.map V.int))) else none) = none := fun b e => if_neg e
    refine main (fun b => if b = a then some (HO.frz { cls := .type "list", data := .seq vs.toArray } (.lst (ns.map V.int))) else none) (fun b => ?_) (Or.inl (Or.inr ⟨_, hs a rfl⟩)) (fun b u z => ?_) (fun b z => Classical.byContradiction fun e => z (hn b e)) (fun _ => hk)
    · by_cases e : b = a
      · exact Or.inr ⟨_, _, hs b e⟩
      · exact Or.inl (hn b e)
    · by_cases e : b = a
      · cases (hs b e).symm.trans z
        subst e
        exact ⟨ha, by rw [List.length_map]; exact hl, vs, _, rv, ha⟩
      · cases (hn b e).symm.trans z
theorem walk_ofG {l : PySem.W.OpenLaw} {n k : Nat} {q : Program} {loose : List Str} {XP : (Str → Option Value) → Heap → Prop} {YP : World → Heap → Prop} {d : DefRec} {K : Params → PySem.W.Frag} {sp : World → Sp}
    (hn : l.most = some n) (hn2 : n ≤ sizeLine) (hdf : d.params.defaults = []) (hr : Room k callerA) (hY : ∀ (w : World) (h : Heap), YP w h → (K w.params).In h)
    (F : ∀ (w : World) (mg : Str → Option Value) (fa : Addr) (h : Heap), (K w.params).In h → h.Ns mainGlobals mg → mg d.name = some (.ref fa) →
      ∀ base : Heap, (K w.params).In base → base.Ns mainGlobals mg → FnG l.prog w (K w.params) mg base CX0 k fa (sp w))
    (hsp : ∀ (w : World) (H : Hp) (a : Addr) (ns : List Int), ns.length ≤ n → Only H → SqL (K w.params) H a (ns.map V.int) → sp w [.ref a] H (fun v _ => v = .bl true) fun _ _ _ => False) :
    PySem.W.WalkO q loose XP YP l.row.toRowW d [] (fun f vs => PySem.call f vs) := by
  refine Att.attach_call hn hdf fun w s0 s1 mg mb fa o pm cd doc a vs ns G Y ho hd hcd hmg hobj hints hlen hg => ?_
  have KX := hY w _ Y
  exact law_callG KX G.T.g G.T.b G.T.builtins G.T.nolimit hg hobj hints (Nat.le_trans hlen hn2) hr (F w mg fa _ KX G.T.g hmg) fun H hO hS => hsp w H a ns hlen hO hS
end FR
set_option Elab.async false
set_option linter.all false
set_option maxRecDepth 100000
/-! repr of data with dicts -/
namespace FR
open PySem PySem.Spec PyProof.Rows L2 TL
def kD : Key → PyData
  | .inl i => .int i
  | .inr x => .str x
mutual
/-- x stands for the datum d, lists, tuples and dicts of this run all the way -/
inductive Dq (H : Hp) : V → PyData → Prop
  | non : Dq H .non .none
  | bl (b : Bool) : Dq H (.bl b) (.bool b)
  | int (i : Int) : Dq H (.int i) (.int i)
  | str (x : Str) : Dq H (.str x) (.str x)
  | lst {a : Addr} {xs : List V} {ds : List PyData} : H a = some (.lst xs) → sysModules < a → DqAll H xs ds → Dq H (.ref a) (.list ds)
  | tup {a : Addr} {xs : List V} {ds : List PyData} : H a = some (.tup xs) → DqAll H xs ds → Dq H (.ref a) (.tuple ds)
  | dct {a : Addr} {kvs : List (Key × V)} {ds : List (PyData × PyData)} : H a = some (.dK kvs) → DqKv H kvs ds → Dq H (.ref a) (.dict ds)
inductive DqAll (H : Hp) : List V → List PyData → Prop
  | nil : DqAll H [] []
  | cons {v : V} {vs : List V} {d : PyData} {ds : List PyData} : Dq H v d → DqAll H vs ds → DqAll H (v :: vs) (d :: ds)
inductive DqKv (H : Hp) : List (Key × V) → List (PyData × PyData) → Prop
  | nil : DqKv H [] []
  | cons {k : Key} {v : V} {vs : List (Key × V)} {d : PyData} {ds : List (PyData × PyData)} : Dq H v d → DqKv H vs ds → DqKv H ((k, v) :: vs) ((kD k, d) :: ds)
end
section
variable {X : Cx} {pins : List (Addr × Obj)} {σ : L2.St} {H : Hp} {s : Shared}
theorem kD_reads (k : Key) {u : Value} (h : keyIs k u = true) : Reads s.heap u (kD k) [] := by
  rcases keyIs_shape h with ⟨i, t, rfl, rfl⟩ | ⟨x, t, rfl, rfl⟩
  · exact .int i t
  · exact .str x t
mutual
theorem Dq.reads (I : Inv X pins σ H s) : ∀ (d : PyData) (v : V) (u : Value), Dq H v d → RelV v u → ∃ as, Reads s.heap u d as ∧ sysModules ∉ as
  | .none, _, _, h, r => by
    cases h
    cases r
    exact ⟨_, Reads.none, by simp⟩
  | .bool b, _, _, h, r => by
    cases h
    cases r
    exact ⟨_, Reads.bool b, by simp⟩
  | .int i, _, _, h, r => by
    cases h
    obtain ⟨t, rfl⟩ := r
    exact ⟨_, Reads.int i t, by simp⟩
  | .str x, _, _, h, r => by
    cases h
    obtain ⟨t, rfl⟩ := r
    exact ⟨_, Reads.str x t, by simp⟩
  | .list ds, _, _, h, r => by
    cases h with
    | lst hs hb ha =>
      cases r
      obtain ⟨_, its, n, rv, e⟩ := (show ObjOk X.prog X.w H s.heap _ (.lst _) from I.hok _ _ hs)
      obtain ⟨as, q, z⟩ := Dq.readsAll I ds _ _ ha rv
      exact ⟨_, Reads.list e rfl rfl q, fun h => (List.mem_cons.mp h).elim (fun e => by rw [← e] at hb; exact absurd hb (Nat.lt_irrefl _)) z⟩
  | .tuple ds, _, _, h, r => by
    cases h with
    | tup hs ha =>
      cases r
      obtain ⟨_, its, rv, o, e, hc, n, hd⟩ := (show ObjOk X.prog X.w H s.heap _ (.tup _) from I.hok _ _ hs)
      obtain ⟨as, q, z⟩ := Dq.readsAll I ds _ _ ha rv
      exact ⟨_, Reads.tuple e hc hd q, z⟩
  | .dict ds, _, _, h, r => by
    cases h with
    | dct hs ha =>
      cases r
      obtain ⟨_, ns, vs, kv, o, es, ep, e, hx, hd, _, hp, _⟩ := (show ObjOk X.prog X.w H s.heap _ (.dK _) from I.hok _ _ hs)
      obtain ⟨bs, q1, q2, z⟩ := Dq.readsKv I ds _ _ es.toList ha kv hp
      exact ⟨_, Reads.dict e hx.1 hd q1 q2, fun h => (List.mem_append.mp h).elim (fun h => (List.mem_cons.mp h).elim (fun e => by rw [← e] at ns; simp at ns) (fun h => by simp at h)) z⟩
theorem Dq.readsAll (I : Inv X pins σ H s) : ∀ (ds : List PyData) (vs : List V) (us : List Value), DqAll H vs ds → Vals vs us → ∃ as, ReadsAll s.heap us ds as ∧ sysModules ∉ as
  | [], _, _, h, r => by
    cases h
    cases r
    exact ⟨_, ReadsAll.nil, by simp⟩
  | d :: ds, _, _, h, r => by
    cases h with
    | cons h1 h2 =>
      cases r with
      | cons r1 r2 =>
        obtain ⟨as, q1, z1⟩ := Dq.reads I d _ _ h1 r1
        obtain ⟨bs, q2, z2⟩ := Dq.readsAll I ds _ _ h2 r2
        exact ⟨_, ReadsAll.cons q1 q2, fun h => (List.mem_append.mp h).elim z1 z2⟩
theorem Dq.readsKv (I : Inv X pins σ H s) : ∀ (ds : List (PyData × PyData)) (kvs : List (Key × V)) (vs : List (Key × Value)) (es : List DictEntry), DqKv H kvs ds → KV kvs vs → Pairs (mixKind X.prog X.w) es vs →
    ∃ bs, ReadsAll s.heap (es.map (·.key)) (ds.map (·.1)) [] ∧ ReadsAll s.heap (es.map (·.val)) (ds.map (·.2)) bs ∧ sysModules ∉ bs
  | [], _, _, _, h, r, p => by
    cases h
    cases r
    cases p
    exact ⟨_, ReadsAll.nil, ReadsAll.nil, by simp⟩
  | d :: ds, _, _, _, h, r, p => by
    cases h with
    | cons h1 h2 =>
      cases r with
      | cons r1 r2 =>
        cases p with
        | cons p1 p2 p3 =>
          obtain ⟨as, q1, z1⟩ := Dq.reads I _ _ _ h1 r1.2
          obtain ⟨bs, q2, q3, z2⟩ := Dq.readsKv I ds _ _ _ h2 r2 p3
          have p1' := p1
          rw [← r1.1] at p1'
          refine ⟨_, ?_, ?_, fun h => (List.mem_append.mp h).elim z1 z2⟩
          · exact ReadsAll.cons (as := []) (bs := []) (kD_reads _ (show keyIs _ _ = true from p1')) q2
          · rw [List.map_cons, List.map_cons, p2]
            exact ReadsAll.cons q1 q3
end
end
/-! lists at an address behind sysModules -/
structure NewS (o : HO) (Q : VK) (H : Hp) : Prop where
  to : ∀ (p : Addr) (H' : Hp), H p = none → sysModules < p → Keep [] H H' → H' p = some o → Q (.ref p) H'
section
variable {X : Cx} {es : List Expr} {t : TA} {pos : Pos}
def tLstS (t : TA) : TE := fun σ H Q => t σ H fun xs H1 => xs.length ≤ sizeLine ∧ NewS (.lst xs) Q H1
theorem pe_lstS (h : PA X es t) : PE X (.List es pos) (tLstS t) := by
  refine ⟨fun pins s σ H Q I hq => wpAny_List_spliced (thn (h.run _ pins s σ H _ I hq) fun us s1 hh => ?_)⟩
  obtain ⟨xs, H1, I1, r, z, q⟩ := hh
  refine ⟨by rw [← r.length]; exact z, .ref s1.heap.objs.size, upd H1 s1.heap.objs.size (.lst xs), I1.laid (t' := s1.toks) (fun _ _ e => Heap.get?_push_of_some _ e) (Nat.le_refl _) ⟨z, us, 0, r, Heap.get?_push_size _ rfl⟩, rfl, ?_⟩
  exact q.to _ _ (I1.hok.fresh (Nat.le_refl _)) I1.big (keep_new (I1.hok.fresh (Nat.le_refl _))) upd_same
end
section
variable {X : Cx}
def rReprQ : List V → Hp → VK → Prop := fun xs H Q => ∃ (p : Addr) (d : PyData), xs = [.ref p] ∧ Dq H (.ref p) d ∧ d.showable = true ∧ d.depth ≤ 50 ∧ d.shown.length ≤ sizeLine ∧ Q (.str d.shown) H
theorem call_reprQ (hgd : X.A.guards = some []) (hu : X.A.units + 65 < cLine) : CallR X (.builtin "repr") rReprQ := fun pins s σ H xs us Q I r h => by
  obtain ⟨p, d, rfl, hd, hs, hdp, hz, q⟩ := h
  obtain ⟨u, rfl, ru⟩ : ∃ u, us = [u] ∧ RelV (.ref p) u := by
    cases r with
    | cons a b => cases b; exact ⟨_, rfl, a⟩
  cases (show u = Value.ref p from ru)
  obtain ⟨as, rd, hsm⟩ := Dq.reads I d _ _ hd ru
  exact repr_of_reads' rd hs (fun _ => hsm) hgd (by omega) (fun _ _ e => e) (fun h' u tk hk => ⟨.str d.shown, H, I.kept hk, ⟨_, rfl⟩, q⟩) hz
end
end FR
set_option Elab.async false
set_option linter.all false
set_option maxRecDepth 100000
set_option maxHeartbeats 2000000
/-! exceptions of the program with one field, value -/
namespace PySem
namespace ExV
open PySem.W PySem.Calls PyProof.Rows PySem.HandSPX
/-! ### the text of __init__ -/
def iA (p1 p2 : Pos) : Arguments := { posonlyargs := [], args := [{ arg := "self", annotation := none, pos := p1 }, { arg := "value", annotation := none, pos := p2 }], vararg := none, kwonlyargs := [], kw_defaults := [], kwarg := none, defaults := [] }
def iB (q1 q2 q3 q4 : Pos) : List Stmt := [.Assign [.Attribute (.Name "self" q1) "value" q2] (.Name "value" q3) q4]
def iS : Scope := { kind := .function, names := [(PySem.Str.ofString "self", .local), (PySem.Str.ofString "value", .local)], isGenerator := false, isCoroutine := false, more := [] }
/-- what the written part says of Low, at C, and of its __init__, at fI -/
structure LowTxt (K : Frag) (mg : Str → Option Value) (cn qn : Str) (C fI : Addr) : Prop where
  gC : mg cn = some (.ref C)
  cls : ∃ nm q N bs bm sn sub ab col dd k0 k1 k2 k3 k5, K.lookup C = some (excClassObj nm q C N bs bm true sn sub ab col dd k0 k1 k2 k3 k5 "ValueError.__new__") ∧ refsVE bm = true
  sa : findIn K (.ref C) "__setattr__" = some (some (.builtin "object.__setattr__"))
  ga : findIn K (.ref C) "__getattribute__" = some (some (.builtin "BaseException.__getattribute__"))
  gg : findIn K (.ref C) "__getattr__" = some none
  noN : findIn K (.ref C) "value" = some none
  iC : findIn K (.ref C) "__init__" = some (some (.ref fI))
  tC : typeIn K (.ref fI) = some (.type "function")
  kC : keepIn K (.ref C) = true
  exC : subIn K (.ref C) (.type "BaseException") = some true
  tyC : typeIn K (.ref C) = some (.type "type")
  hdC : hasDictIn K C = true
  te : exmOne K (.ref C) (.ref C) = some true
  fn : ∃ (oc : Value) (od : Option Addr) (doc pm : Value) (an : Option Addr) (cdv ct : Value) (osl : Array (Option Value)) (p1 p2 q1 q2 q3 q4 : Pos),
    K.lookup fI = some ⟨oc, od, .func (fnOf "__init__" qn (iA p1 p2) (iB q1 q2 q3 q4) iS .none .none doc pm an cdv ct), osl⟩ ∧ codeIn K cdv qn = true
theorem one_size (v : Value) : [v].length ≤ sizeLine := by
  rw [sizeLine_eq]
  exact (by decide : 1 ≤ 16777216)
theorem kept_but {K : Frag} {h h' : Heap} {x : Addr} (X : K.In h) (hx : K.lookup x = none) (k : ∀ b o, b ≠ x → h.get? b = some o → h'.get? b = some o) : K.In h' := fun a o e =>
  k a o (fun z => by rw [z, hx] at e; cases e) (X a o e)
theorem ldC {M : Model} {s : Shared} {name : Str} {scope : Scope} {L a : Addr} {cd : Value} {m : Str → Option Value} {x : Str} {pos : Pos} {v : Value} {Q : Value → Shared → Prop} {A : Around} {E : Value → Shared → Prop} (hn : s.heap.Ns L m) (hv : m x = some v) (h : Q v s)
    (hk : scope.kind = .function := by rfl) (hl : (envOfC name scope L a cd).kindOf x = some .local := by rfl) (hd : (x == ("__debug__" : Str)) = false := by decide) :
    wpAny M A (eval (.Name x pos) (envOfC name scope L a cd)) Q E s := wpAny_Name (wpAny_loadName_local hk hl hn hv h) hd
/-- what __init__ leaves of a fresh exception at x -/
structure InitEnd (h h' : Heap) (x C dx t1 : Addr) (v : Value) : Prop where
  keep : ∀ b o, b ≠ x → h.get? b = some o → h'.get? b = some o
  obj : h'.get? x = some { cls := .ref C, dict := some dx, data := .fields #[.ref t1, .none, .none, .none, .bool false, .none] }
  dbig : h.objs.size ≤ dx
  dne : dx ≠ x
  ns : h'.Ns1 dx (fun y => if y = "value" then some v else none)
/-- a made Low -/
structure OwnMade (h h' : Heap) (e C d : Addr) (v : Value) : Prop where
  keep : ∀ b o, h.get? b = some o → h'.get? b = some o
  new : h.objs.size ≤ e
  obj : ∃ oe vs, h'.get? e = some oe ∧ oe.cls = .ref C ∧ oe.dict = some d ∧ oe.data = .fields vs ∧ vs[1]? = some .none
  dbig : h.objs.size ≤ d
  dne : d ≠ e
  ns : h'.Ns1 d (fun y => if y = "value" then some v else none)
section
variable {prog : Program} {w : World} {A : Around} {E : Value → Shared → Prop} {R : Result → Shared → Prop} {s : Shared} {K : Frag} {mg : Str → Option Value} {C fI : Addr} {cn qn : Str}
theorem low_init (T : LowTxt K mg cn qn C fI) {x t0 : Addr} {v : Value} (X : K.In s.heap) (hlim : s.heap.NoLimit) (hx : s.heap.get? x = some (excO C t0)) (hnx : K.lookup x = none) (hroom : A.depth < recursionLimit)
    (hq : ∀ h' tk dx, InitEnd s.heap h' x C dx t0 v → R (.ok (.ret .none)) { s with heap := h', toks := tk }) :
    codeAny (model prog w) A (.call (.ref fI) ⟨[.ref x, v], []⟩) R s := by
  obtain ⟨oc, od, doc, pm, an, cdv, ct, osl, p1, p2, q1, q2, q3, q4, ho, hcd⟩ := T.fn
  obtain ⟨nm, q, N, bs, bm, sn, sub, ab, col, dd, k0, k1, k2, k3, k5, hC, hbm⟩ := T.cls
  have hcl : clsIn K C = some { name := nm, bases := bs, mro := .ref C :: bm, ns := N, qualname := q, hasDict := true, slotNames := sn, subclasses := sub, abstract := ab, collection := col, hasDel := false } := by unfold clsIn; rw [hC] <;> rfl
  refine Att.call_fn (binds := [("self", .ref x), ("value", v)]) X hlim ho hcd hroom (BindsTo.of_eq (by first | rfl | with_unfolding_all rfl)) (by first | rfl | decide | with_unfolding_all rfl) (fun s₁ IC => ?_) rfl rfl rfl
  obtain ⟨h₁, tk₁, rfl⟩ := IC.toInCall.same
  have k : ∀ b o, s.heap.get? b = some o → h₁.get? b = some o := IC.toInCall.keep
  have hn := IC.toInCall.ns
  have hxL : s.heap.objs.size ≠ x := Nat.ne_of_gt (Heap.lt_size hx)
  have X₁ : K.In h₁ := X.keeps k
  have hx₁ := k _ _ hx
  -- self.by = by
  show wpAny _ _ (execs _ _) _ _ _
  refine wpAny_execs_cons (plainObj_wpAny_Assign_Attribute ?_)
  refine ldC (v := v) hn (by first | rfl | with_unfolding_all rfl | kernel_rfl) (ldC (v := .ref x) hn (by first | rfl | with_unfolding_all rfl | kernel_rfl) ?_)
  refine set_plain X₁ (ox := excO C t0) (od := none) ⟨hx₁, rfl, rfl, trivial⟩ T.sa ?_
  refine exc_osa X₁ hx₁ hcl (show refsVE (.ref C :: bm) = true from hbm) rfl T.noN (fun h₃ tk₃ dx k₃ dn dne hx₃ hn₃ => ?_)
  show wpAny _ _ (execs _ _) _ _ _
  have z : s.heap.objs.size < h₁.objs.size := hn.lt
  exact wpAny_execs_nil (hq h₃ tk₃ dx ⟨fun b o hb e => k₃ b o hb (k b o e), hx₃, Nat.le_of_lt (Nat.lt_of_lt_of_le z dn), dne, hn₃⟩)
theorem low_made (T : LowTxt K mg cn qn C fI) {v : Value} (X : K.In s.heap) (hlim : s.heap.NoLimit) (hroom : A.depth + 1 < recursionLimit)
    (hq : ∀ h' tk e d, OwnMade s.heap h' e C d v → R (.ok (.ret (.ref e))) { s with heap := h', toks := tk }) :
    codeAny (model prog w) A (.call (.ref C) ⟨[v], []⟩) R s := by
  obtain ⟨nm, q, N, bs, bm, sn, sub, ab, col, dd, k0, k1, k2, k3, k5, hC, hbm⟩ := T.cls
  obtain ⟨hp, g, dr, tk, os⟩ := s
  have k : ∀ b o, hp.get? b = some o → ((hp.push (kdv_tup [v])).push (excO C hp.objs.size)).get? b = some o := fun b o e => Heap.get?_push_of_some _ (Heap.get?_push_of_some _ e)
  have hget : ((hp.push (kdv_tup [v])).push (excO C hp.objs.size)).get? (hp.objs.size + 1) = some (excO C hp.objs.size) := by heap_get
  have hnx : K.lookup (hp.objs.size + 1) = none := by
    cases e : K.lookup (hp.objs.size + 1) with
    | none => rfl
    | some o =>
      have z : hp.get? (hp.objs.size + 1) = some o := X _ _ e
      exact absurd (Nat.lt_of_succ_lt (Heap.lt_size z)) (Nat.lt_irrefl _)
  refine call_own F.excBase_ValueError (fun X => refsVE_contains X bm hbm) (X _ _ hC) (looks_findIn X T.iC) (fun self => bind_fn X self T.tC) (one_size v) ?_
  refine low_init (s := ⟨(hp.push (kdv_tup [v])).push (excO C hp.objs.size), g, dr, tk, os⟩) T (X.keeps k) (hlim.keeps k) hget hnx ?_ fun h' tk' dx ⟨k', hx, dn, dne, hns⟩ => ?_
  · show A.depth + 1 < recursionLimit
    exact hroom
  · have old : ∀ b o, hp.get? b = some o → h'.get? b = some o := fun b o e => k' b o (Nat.ne_of_lt (Nat.lt_succ_of_lt (Heap.lt_size e))) (k b o e)
    have z : hp.objs.size + 1 + 1 ≤ dx := by
      first
        | (simpa only [Heap.size_push] using dn)
        | exact dn
        | (have q := dn; rw [Heap.size_push, Heap.size_push] at q; exact q)
    exact ⟨rfl, hq h' tk' (hp.objs.size + 1) dx ⟨old, Nat.le_succ _, ⟨_, _, hx, rfl, rfl, rfl, rfl⟩, Nat.le_trans (Nat.le_trans (Nat.le_succ _) (Nat.le_succ _)) z, dne, hns⟩⟩
end
end ExV
end PySem
namespace L2
open PySem PySem.Spec PyProof.Rows
theorem relO_low {v : V} {v' : Value} (r : RelV v v') (f : Str) : RelO (List.lookup f [(("value" : Str), v)]) (if f = "value" then some v' else none) := by
  by_cases hw : f = "value"
  · subst hw
    rw [if_pos rfl]
    have q : List.lookup ("value" : Str) [(("value" : Str), v)] = some v := by simp [List.lookup]
    rw [q]
    exact r
  · rw [if_neg hw]
    have qw : (f == ("value" : Str)) = false := by simpa using hw
    have q2 : List.lookup f [(("value" : Str), v)] = none := by simp [List.lookup, qw]
    rw [q2]
    trivial
section
variable {X : Cx} {C fI : Addr} {cn qn : Str}
/-- Low(e) -/
def tMkLow (C : Addr) (ta : TA) : St → Hp → XK → Prop := fun σ H Q => ta σ H fun vs H1 => ∃ v, vs = [v] ∧ ∀ d, H1 d = none → Q (.ref C) (some d) (upd H1 d (.xd [(("value" : Str), v)]))
theorem pmk_low {a : Expr} {ta : TA} {p pos : Pos} {k : Nat} (T : PySem.ExV.LowTxt X.K X.mg cn qn C fI) (hr : Room k X.A) (ha : PA X [a] ta) (hdb : (cn == ("__debug__" : Str)) = false := by decide) (hg : Gl X cn := by rfl)
    (he : starEach (a :: []) X.env = (false, eval a X.env) :: starEach [] X.env := by rfl) (hpl : (backTo pos (starEach [] X.env)).any (·.1) = false := by rfl) :
    PMk X (.Call (.Name cn p) [a] [] pos) (tMkLow C ta) := by
  intro pins s σ H Q I h
  refine wpAny_Call_Name_kw (ld_glob I hg T.gC ?_ hdb)
  refine PySem.W.callWith_K (h₀ := X.base) I.ok.mod.kin T.kC (thn (ha.run pos pins s σ H _ I h) fun us s1 hh => ?_) he hpl
  obtain ⟨vs, H1, I1, r1, v, ev, q1⟩ := hh
  subst ev
  refine ⟨I1.kIn, ?_⟩
  cases r1 with
  | cons rv rn =>
    rename_i v' us'
    cases rn
    show wpAny _ _ (call (.ref C) [v']) _ _ _
    have hlim := I1.nolimit
    obtain ⟨hp, g, dr, tk, os⟩ := s1
    refine wpAny_call (PySem.ExV.low_made T I1.kIn hlim (by have := hr.dp; omega) fun h' tk' e d M => ?_)
    show MkP X pins σ Q (.ref e) ⟨h', g, dr, tk', os⟩
    obtain ⟨oe, fv, hoe, hc, hd, hdat, h1⟩ := M.obj
    have hns := M.ns
    obtain ⟨G', g1, g2⟩ := restrict h' fun b => decide (b ≠ e)
    have gk : ∀ b, b ≠ e → G'.get? b = h'.get? b := fun b hb => g1 b (decide_eq_true hb)
    have ge : G'.get? e = none := g2 e (by simp)
    have old : ∀ b o, hp.get? b = some o → G'.get? b = some o := fun b o q => (gk b (Nat.ne_of_lt (Nat.lt_of_lt_of_le (Heap.lt_size q) M.new))).trans (M.keep b o q)
    have ob : ObjOk X.prog X.w (upd H1 d (.xd [(("value" : Str), v)])) G' d (.xd [(("value" : Str), v)]) :=
      ⟨_, hns.at (fun o q => (gk d M.dne).trans q), fun f => relO_low rv f⟩
    have J : Inv X pins σ (upd H1 d (.xd [(("value" : Str), v)])) ⟨G', g, dr, tk', os⟩ := I1.laid (t' := tk') old M.dbig ob
    refine ⟨e, oe, fv, ⟨G', g, dr, tk', os⟩, _, .ref C, some d, rfl, J, fun b o q => ?_, ge, hoe, ⟨hc, hd⟩, hdat, h1, ?_, rfl, I1.bare, raises_own T.exC T.tyC, q1 d (I1.hok.fresh M.dbig)⟩
    · by_cases hb : b = e
      · have q' : G'.get? b = some o := q
        rw [hb, ge] at q'; cases q'
      · exact (gk b hb).symm.trans q
    · rw [upd_ne (Ne.symm M.dne)]
      exact I1.hok.fresh M.new
/-- raise Low(e) -/
def tRaiseLow (C : Addr) (W : WX) (ta : TA) : TS := fun _ σ H => tMkLow C ta σ H fun cls d H' => W cls d σ H'
theorem ps_raiseLow {a : Expr} {ta : TA} {W : WX} {p pos pos2 : Pos} {k : Nat} (hc : X.calm = true) (T : PySem.ExV.LowTxt X.K X.mg cn qn C fI) (hr : Room k X.A) (tk : Takes X W) (ha : PA X [a] ta) (hdb : (cn == ("__debug__" : Str)) = false := by decide) (hg : Gl X cn := by rfl)
    (he : starEach (a :: []) X.env = (false, eval a X.env) :: starEach [] X.env := by rfl) (hpl : (backTo pos (starEach [] X.env)).any (·.1) = false := by rfl) :
    PS X (.Raise (some (.Call (.Name cn p) [a] [] pos)) none pos2) (tRaiseLow C W ta) := ps_raise hc tk (pmk_low T hr ha hdb hg he hpl)
/-- low.by, low the exception that the suite holds (at a; its class cls, its dict d) -/
def tByLow (C : Addr) (a : Addr) (cls : Value) (d : Option Addr) (te : TE) : TE := fun σ H Q => te σ H fun x H1 => x = .ref a ∧ cls = .ref C ∧ ∃ (dd : Addr) (v : V), d = some dd ∧ H1 dd = some (.xd [(("value" : Str), v)]) ∧ Q v H1
theorem pe_byLow {a : Addr} {oe : Obj} {cls : Value} {d : Option Addr} {pn : List (Addr × Obj)} {e : Expr} {te : TE} {pos : Pos} (T : PySem.ExV.LowTxt X.K X.mg cn qn C fI) (hz : Zc cls d oe) (hf : ∃ vs, oe.data = .fields vs) (he : PE (X.suite a ((a, oe) :: pn)) e te)
    (hb : attributeBase e "value" X.env (eval e X.env) = eval e X.env := by rfl) :
    PE (X.suite a ((a, oe) :: pn)) (.Attribute e "value" pos) (tByLow C a cls d te) := by
  refine ⟨fun pins s σ H Q I h => ?_⟩
  refine attr_of hb (thn (he.run pins s σ H _ I h) fun u s1 hh => ?_)
  obtain ⟨x, H1, I1, rx, ex, ec, dd, v, ed, ea, q⟩ := hh
  subst ex
  obtain rfl : u = Value.ref a := rx
  subst ec
  subst ed
  obtain ⟨ha, _⟩ := I1.pin (a, oe) (List.mem_append_left _ List.mem_cons_self)
  obtain ⟨vs, hd⟩ := hf
  have hx : ObjOk X.prog X.w H1 s1.heap dd (.xd [(("value" : Str), v)]) := I1.hok dd _ ea
  obtain ⟨mA, hns, hr⟩ := hx
  obtain ⟨od, ho, hl⟩ := lookIn_ns hns
  have l : List.lookup ("value" : Str) [(("value" : Str), v)] = some v := by simp [List.lookup]
  obtain ⟨u, hu, ru⟩ := RelO.some_of (v := v) (o := mA "value") (by rw [← l]; exact hr "value")
  have J : PySem.W.InstAt s1.heap a oe C (some od) := ⟨ha, hz.1, by unfold PySem.W.notCls; rw [hd] <;> rfl, by rw [hz.2]; exact ho⟩
  exact HandSPX.exc_get I1.kIn J T.ga T.gg T.exC (PySem.W.findObj_own T.hdC T.noN rfl (by rw [hl, hu])) (handed_of ru) ⟨v, H1, I1.tok _, ru, q⟩
end
end L2
set_option Elab.async false
set_option linter.all false
set_option maxRecDepth 100000
set_option maxHeartbeats 2000000
/-! try with several clauses «except C as n» of one name; what no clause takes does not come -/
namespace FR
open PySem PySem.Spec PyProof.Rows L2 TL
/-- behind a suite the clause's name is gone -/
def gone (i : Nat) (D : Ends) : Ends := { nx := fun σ H => D.nx (σ.set i none) H, rt := D.rt, bk := fun σ H => D.bk (σ.set i none) H, ct := fun σ H => D.ct (σ.set i none) H }
def wAsM (K : PySem.W.Frag) (i : Nat) (D : Ends) : List (Value × (Addr → Value → Option Addr → TS)) → WX
  | [] => fun _ _ _ _ => False
  | (c, ts) :: r => fun cls d σ H => ∃ b, PySem.W.exmOne K cls c = some b ∧ (b = true → ∀ a, H a = none → ts a cls d (gone i D) (σ.set i (some (.ref a))) H) ∧ (b = false → wAsM K i D r cls d σ H)
inductive ClausesOk (X : Cx) (n : Str) : List ExceptHandler → List (Value × (Addr → Value → Option Addr → TS)) → Prop
  | nil {hds : List ExceptHandler} : ClausesOk X n hds []
  | cons {x : Str} {c : Value} {ts : Addr → Value → Option Addr → TS} {st : Stmt} {sts : List Stmt} {p1 p2 : Pos} {hds : List ExceptHandler} {l : List (Value × (Addr → Value → Option Addr → TS))} (hc : Names X x c)
      (hsu : ∀ (a : Addr) (oe : Obj) (cls : Value) (d : Option Addr) (pn : List (Addr × Obj)), Zc cls d oe → (∃ vs, oe.data = .fields vs) → PSs (X.suite a ((a, oe) :: pn)) (st :: sts) (ts a cls d)) (r : ClausesOk X n hds l) :
      ClausesOk X n (.ExceptHandler (some (.Name x p1)) (some n) (st :: sts) p2 :: hds) ((c, ts) :: l)
section
variable {X : Cx} {n : Str} {i : Nat} {body : List Stmt} {hd0 : ExceptHandler} {hds : List ExceptHandler} {l : List (Value × (Addr → Value → Option Addr → TS))} {pos : Pos} {tb : WX → TS}
theorem ps_try_asM (hs : X.stack = X.env :: X.outer) (hf : X.env.frame = some X.env.locals) (hN : X.N.Nodup) (hi : X.N[i]? = some n) (hln : X.env.kindOf n = some .local)
    (hb : ∀ (W : WX) (pn : List (Addr × Obj)) (xe : Value → Shared → Prop), Takes (X.tr pn xe) W → PassesOwn (model X.prog X.w) X.A X.env xe → PSs (X.tr pn xe) body (tb W))
    (hh : ClausesOk X n (hd0 :: hds) l) : PS X (.Try body (hd0 :: hds) [] [] pos) (fun D σ H => tb (wAsM X.K i D l) D σ H) := by
  refine ⟨fun pins s σ H D I h => wpAny_Try_except ?_⟩
  have okX := I.ok
  have fr : X.A.frames = some (X.env :: X.outer) := by rw [okX.frames, hs]
  let land : Value → Shared → Prop := fun e s1 => wpAny (model X.prog X.w) X.A (noteFrame e X.env) (fun _ s2 => wpAny (model X.prog X.w) X.A (setFlight e none) (fun _ s3 => wpAny (model X.prog X.w) X.A (handleBy e X.env (hd0 :: hds)) (SP X pins D) X.xe s3) X.xe s2) X.xe s1
  have caught : ∀ (u : Value) (s1 : Shared), XE (X.tr (X.pn ++ pins) land) (wAsM X.K i D l) u s1 → land u s1 := by
    intro u s1 xx
    obtain ⟨a, B, sI, _, σ1, H1, cls, d, rfl, J0, nb, up, sky, na, os, ag, w⟩ := xx
    have J : Inv X pins σ1 H1 sI := J0.ofTry okX
    show wpAny (model X.prog X.w) X.A (noteFrame (.ref a) X.env) _ _ _
    refine Sky.land Zc.steady fr hf (by rw [← hs]; exact sky) fun g1 fl1 up1 => ?_
    have K1 : Inv X pins σ1 H1 { s1 with heap := g1 } := J.landed nb fl1.1 (up.trans up1) os ag
    obtain ⟨ob, fv, e1, z1, d1⟩ := fl1.there
    have out : a ∉ frs (X.env :: X.outer) := fun m => by
      obtain ⟨_, o2, e2, q⟩ := fl1.2.2.1.mem m
      cases e1.symm.trans e2
      exact q _ d1
    have n1 : a ≠ X.env.locals := fun z => out (List.mem_filterMap.mpr ⟨_, List.mem_cons_self, by rw [hf, z]⟩)
    have n2 : a ∉ X.fs := fun m => by
      obtain ⟨e2, m2, q⟩ := List.mem_filterMap.mp m
      exact out (List.mem_filterMap.mpr ⟨e2, List.mem_cons_of_mem _ m2, q⟩)
    have S1 := K1.suite e1 d1 na n1 n2
    have each : ∀ {cs : List ExceptHandler} {ws : List (Value × (Addr → Value → Option Addr → TS))}, ClausesOk X n cs ws → wAsM X.K i D ws cls d σ1 H1 → wpAny (model X.prog X.w) X.A (handleBy (.ref a) X.env cs) (SP X pins D) X.xe { s1 with heap := g1 } := by
      intro cs ws ck
      induction ck with
      | nil => exact fun z => z.elim
      | @cons x c ts st sts p1 p2 more wmore hc hsu _ ih =>
        rintro ⟨b, hm, yes, no⟩
        refine wpAny_handleBy_cons (codeAny_handlers_test ?_) (fun q => by cases q)
        have ty : PySem.W.Looks (model X.prog X.w) g1 (typeOf (.ref a)) cls := fun _ _ _ _ k q => wpAny_typeOf_ref (k _ _ e1) (by rw [z1.1]; exact q)
        have one := PySem.W.exm_one (M := model X.prog X.w) K1.kIn ty hm
        have named : ∀ {Q E : Value → Shared → Prop}, Q c { s1 with heap := g1 } → wpAny (model X.prog X.w) (X.A.mark (some (.ref a))) (eval (.Name x p1) X.env) Q E { s1 with heap := g1 } := by
          intro Q E q
          obtain ⟨y1, y2, y3 | ⟨y3, y4, y5⟩⟩ := hc
          · exact ld_glob (X := X.suite a ((a, ob) :: (X.pn ++ pins))) S1 y1 y3 q y2
          · exact ld_blt (X := X.suite a ((a, ob) :: (X.pn ++ pins))) S1 y1 y3 y4 q y5 y2
        refine named (one.here ?_)
        cases b with
        | false => exact ih (no rfl)
        | true =>
          refine codeAny_handlers_suite_as (HandSPX.lands_againZ fl1 fun g2 fl2 up2 => ?_)
          obtain ⟨oc, fw, e2, z2, d2⟩ := fl2.there
          have K2 : Inv X pins σ1 H1 { s1 with heap := g2 } := J.landed nb fl2.1 ((up.trans up1).trans up2) os ag
          have S2 := K2.suite e2 d2 na n1 n2
          refine store_ok (X := X.suite a ((a, oc) :: (X.pn ++ pins))) (v := .ref a) S2 hN hi (.inl hln) rfl (fun s5 S5 => ?_) (.inr hln)
          refine wpAny_mono ((hsu a oc cls d (X.pn ++ pins) z2 ⟨_, d2⟩).run [] s5 _ H1 _ S5 (yes rfl a na)) (fun f s6 hz => ?_) (fun _ _ z => z.elim)
          have ends : ∀ {σ6 : L2.St} {H6 : Hp} {Q : Shared → Prop}, Inv (X.suite a ((a, oc) :: (X.pn ++ pins))) [] σ6 H6 s6 → (∀ s7, Inv X pins (σ6.set i none) H6 s7 → Q s7) → wpAny (model X.prog X.w) X.A (do bindName X.env n .none; unbindBehindTheSuite X.env n p2) (fun _ s7 => Q s7) X.xe s6 :=
            fun S6 hq => gone_ok (S6.unsuite okX) hN hi hln hq
          match f, hz with
          | .next, ⟨_, _, S6, q6⟩ => exact ends S6 fun _ J7 => ⟨_, _, J7, q6⟩
          | .brk, ⟨_, _, S6, q6⟩ => exact ends S6 fun _ J7 => ⟨_, _, J7, q6⟩
          | .cont, ⟨_, _, S6, q6⟩ => exact ends S6 fun _ J7 => ⟨_, _, J7, q6⟩
          | .ret _, ⟨_, _, _, S6, r6, q6⟩ => exact ends S6 fun _ J7 => ⟨_, _, _, J7, r6, q6⟩
    exact each hh w
  refine wpAny_mono ((hb _ _ land caught PassesOwn.looking).run [] s σ H D (I.toTry _) h) (fun f s1 hz => ?_) (fun _ _ z => z)
  match f, hz with
  | .next, ⟨_, _, J, q⟩ => exact wpAny_execs_nil ⟨_, _, J.ofTry okX, q⟩
  | .brk, ⟨_, _, J, q⟩ => exact ⟨_, _, J.ofTry okX, q⟩
  | .cont, ⟨_, _, J, q⟩ => exact ⟨_, _, J.ofTry okX, q⟩
  | .ret _, ⟨_, _, _, J, r, q⟩ => exact ⟨_, _, _, J.ofTry okX, r, q⟩
end
end FR
set_option Elab.async false
set_option linter.all false
set_option maxRecDepth 100000
/-! isinstance of the exception that a suite holds, one with fields -/
namespace FR
open PySem PySem.Spec PyProof.Rows L2 TL
/-- the exception that the suite holds is one of the class D, with its own dict -/
def HeldE (K : PySem.W.Frag) (cls : Value) (d : Option Addr) (H : Hp) (D : Addr) : Prop := cls = .ref D ∧ ExcC K D ∧ ∃ (dd : Addr) (fs : List (Str × V)), d = some dd ∧ H dd = some (.xd fs)
section
variable {X : Cx} {a : Addr} {oe : Obj} {pn : List (Addr × Obj)} {cls : Value} {d : Option Addr} {pins : List (Addr × Obj)} {σ : L2.St} {H : Hp} {s : Shared} {D : Addr}
theorem kit_held (hz : Zc cls d oe) (hf : ∃ vs, oe.data = .fields vs) (I : Inv (X.suite a ((a, oe) :: pn)) pins σ H s) (h : HeldE X.K cls d H D) : ∃ od, PySem.W.KitX X.K (.ref a) (.ref D) (fun g => PySem.W.InstAt g a oe D (some od)) ∧ PySem.W.InstAt s.heap a oe D (some od) := by
  obtain ⟨rfl, C, dd, fs, rfl, hx⟩ := h
  obtain ⟨hget, _⟩ := I.pin (a, oe) (List.mem_append_left _ List.mem_cons_self)
  obtain ⟨vs, hv⟩ := hf
  obtain ⟨mA, hns, _⟩ := (show ObjOk X.prog X.w H s.heap dd (.xd fs) from I.hok dd _ hx)
  obtain ⟨od, ho, _⟩ := lookIn_ns hns
  obtain ⟨cd, hc, _⟩ := PySem.W.any_some C.hd
  refine ⟨od, PySem.W.kitx_exc (by rw [hc]; rfl) C.hg C.hk C.hs C.ha C.hn C.ht C.hm, hget, hz.1, ?_, ?_⟩
  · unfold PySem.W.notCls
    rw [hv] <;> rfl
  · rw [hz.2]
    exact ho
def rIsH (K : PySem.W.Frag) (a : Addr) (cls : Value) (d : Option Addr) : List V → Hp → VK → Prop := fun xs H Q => ∃ (D : Addr) (c : V) (cv : Value) (b : Bool), HeldE K cls d H D ∧ xs = [.ref a, c] ∧ ClsV c cv ∧ PySem.W.kitOne K (.ref D) cv = some b ∧ Q (.bl b) H
theorem call_isH (hz : Zc cls d oe) (hf : ∃ vs, oe.data = .fields vs) : CallR (X.suite a ((a, oe) :: pn)) (.builtin "isinstance") (rIsH X.K a cls d) := by
  intro pins s σ H xs us Q I r h
  obtain ⟨D, c, cv, b, hh, rfl, hc, e, q⟩ := h
  cases r with
  | cons rx rr =>
    cases rr with
    | cons rt rr =>
      cases rr
      cases (show _ = Value.ref a from rx)
      cases hc.eq rt
      obtain ⟨od, Z, J⟩ := kit_held hz hf I hh
      exact PySem.W.kia_one Z I.kIn J e (fun z => nomatch z) fun tk => ⟨.bl b, H, I.tok tk, rfl, q⟩
def rIsHT (K : PySem.W.Frag) (a : Addr) (cls : Value) (d : Option Addr) : List V → Hp → VK → Prop := fun xs H Q => ∃ (D tp : Addr) (cs : List V) (cvs : List Value) (b : Bool), HeldE K cls d H D ∧ xs = [.ref a, .ref tp] ∧ H tp = some (.tup cs) ∧ Paired ClsV cs cvs ∧ PySem.W.kitAny K (.ref D) cvs = some b ∧ Q (.bl b) H
theorem call_isHT (hz : Zc cls d oe) (hf : ∃ vs, oe.data = .fields vs) : CallR (X.suite a ((a, oe) :: pn)) (.builtin "isinstance") (rIsHT X.K a cls d) := by
  intro pins s σ H xs us Q I r h
  obtain ⟨D, tp, cs, cvs, b, hh, rfl, ht, hc, e, q⟩ := h
  cases r with
  | cons rx rr =>
    cases rr with
    | cons rt rr =>
      cases rr
      cases (show _ = Value.ref a from rx)
      cases (show _ = Value.ref tp from rt)
      obtain ⟨od, Z, J⟩ := kit_held hz hf I hh
      obtain ⟨_, its, rv, ⟨oc, od2, dt, sl⟩, h1, h2, n, h3⟩ := (show ObjOk X.prog X.w H s.heap tp (.tup cs) from I.hok tp _ ht)
      have e3 := ClsV.all hc rv
      subst e3
      simp only at h2 h3
      subst h2 h3
      exact PySem.W.kia_tup Z I.kIn J h1 e (fun z => nomatch z) fun tk => ⟨.bl b, H, I.tok tk, rfl, q⟩
end
end FR
set_option Elab.async false
set_option linter.all false
set_option maxRecDepth 100000
/-! a text beside a dict; «x not in texts» for anything -/
namespace FR
open PySem PySem.Spec PyProof.Rows L2 TL PySem.SeqAt
theorem str_eq_dict (b : Str) (u : Tok) (l : Addr) (c : Value) (es : Array DictEntry) (n : Nat) (dd : Option Addr) (sl : Array (Option Value)) :
    Meets (Builtin.«str.__eq__» ⟨[.str b u, .ref l], []⟩) (fun _ R s => s.heap.get? l = some { cls := c, dict := dd, data := .dict es n, slots := sl } ∧ R (.ok (.ret .notImplemented)) s) :=
  .of_wp fun prog w A R s h => by
    obtain ⟨hp, g, d, tk, os⟩ := s
    obtain ⟨hl, h⟩ := h
    wp_walk using wpAny_loadPart' hl, wpAny_load hl
    exact ⟨_, rfl, h⟩
theorem dict_eq_str (b : Str) (u : Tok) (l : Addr) (c : Value) (es : Array DictEntry) (n : Nat) (dd : Option Addr) (sl : Array (Option Value)) :
    Meets (Builtin.«dict.__eq__» ⟨[.ref l, .str b u], []⟩) (fun _ R s => s.heap.get? l = some { cls := c, dict := dd, data := .dict es n, slots := sl } ∧ R (.ok (.ret .notImplemented)) s) :=
  .of_wp fun prog w A R s h => by
    obtain ⟨hp, g, d, tk, os⟩ := s
    obtain ⟨hl, h⟩ := h
    have f1 := F.sub_str_dict
    wp_walk using wpAny_loadPart' hl, wpAny_load hl
    exact ⟨_, rfl, h⟩
theorem eqAt_str_dict {A : Around} {s : Shared} {l : Addr} {o : Obj} {es : Array DictEntry} {n : Nat} (b : Str) (u : Tok) (ho : s.heap.get? l = some o) (hx : o.cls = .type "dict") (hd : o.data = .dict es n) (hu : A.units < cLine) : EqAt A s (.str b u) (.ref l) false := fun prog w E Q h => by
  unfold eqBool
  refine wpAny_holding (wpAny_ite_split (fun hab => absurd (eq_of_beq hab) nofun) (fun _ => wpAny_bind ?_))
  obtain ⟨cls, dd, data, sl⟩ := o
  simp only at hx hd
  subst hx hd
  exact rc_eq_decline_or (k := false) (typeIs_str s b u) ⟨_, ho, rfl⟩ (by decide) F.sub_dict_str F.slot_str_eq F.slot_dict_eq_refl
    (fun _ hq => call_meets F.slot_str_eq (typeIs_str s b u) F.entry_str_eq (F.args_str_eq_2 _ _) (str_eq_dict b u l (.type "dict") es n dd sl) ⟨ho, hq⟩)
    (fun _ hq => call_meets F.slot_dict_eq_refl ⟨_, ho, rfl⟩ F.entry_dict_eq (F.args_dict_eq_2 _ _) (dict_eq_str b u l _ es n dd sl) ⟨ho, hq⟩)
    (fun _ hq => wpAny_of_eq (rfl : isSame (.str b u) (.ref l) = pure false) hq) (.inr hu) (wpAny_truthy_bool h)
section
variable {X : Cx}
theorem vals_strs : ∀ {ws : List Str} {us : List Value}, Vals (ws.map V.str) us → ∀ u ∈ us, ∃ x t, u = Value.str x t
  | [], _, h, u, hu => by
    cases h
    simp at hu
  | w :: r, _, .cons a b, u, hu => by
    rcases List.mem_cons.mp hu with rfl | hu
    · obtain ⟨t, rfl⟩ := a
      exact ⟨_, t, rfl⟩
    · exact vals_strs b u hu
/-- what «v not in the texts ws» gives -/
def NInW (K : PySem.W.Frag) (H : Hp) (v : V) (ws : List Str) (r : Bool) : Prop := (flatV v = true ∧ (!inV v (ws.map V.str)) = r) ∨ (∃ d, Dp K H v d ∧ SeqAt.shaped d = true ∧ SeqAt.shaped (.list (ws.map .str)) = true ∧ (!(ws.map PyData.str).any fun z => PyData.eqv z d) = r) ∨
  ∃ (a : Addr) (kvs : List (Key × V)), v = .ref a ∧ H a = some (.dK kvs) ∧ true = r
def rNotInW (K : PySem.W.Frag) : R2 := fun x y H Q => ∃ (p : Addr) (ws : List Str) (r : Bool), y = .ref p ∧ SqL K H p (ws.map V.str) ∧ NInW K H x ws r ∧ Q (.bl r) H
theorem op_notInW (hu : X.A.units + 65 < cLine) : OpR X (compareOp .NotIn) (rNotInW X.K) := by
  intro pins s σ H x y v u Q I rx ry h
  obtain ⟨p, ws, r, rfl, hp, ⟨hf, rfl⟩ | ⟨d, hd, s1, s2, rfl⟩ | ⟨a, kvs, rfl, ha, rfl⟩, q⟩ := h
  · exact op_notIn_seq pins s σ H x _ v u Q I rx ry ⟨p, _, rfl, .inl hp, hf, flat_strs ws, q⟩
  · exact op_notInD hu pins s σ H x _ v u Q I rx ry ⟨d, _, hd, .lst hp (dpAll_strs ws), s1, s2, q⟩
  · cases (show v = Value.ref a from rx)
    cases (show u = Value.ref p from ry)
    obtain ⟨_, _, vs, kv, o, es, ep, e, hx, hd, _, _, _⟩ := (show ObjOk X.prog X.w H s.heap a (.dK _) from I.hok _ _ ha)
    obtain ⟨its, rv, hl, _⟩ := I.list hp
    refine notIn_listAt (fun _ => false) hl.isList (fun z hz => ?_) ⟨.bl true, H, I, ?_, q⟩
    · obtain ⟨x, t, rfl⟩ := vals_strs rv z (by simpa using hz)
      exact eqAt_str_dict x t e hx.1 hd (by show X.A.units + 1 < cLine; omega)
    · show Value.bool _ = Value.bool true
      simp
theorem op_notInWK {X : Cx} {K : PySem.W.Frag} (h : X.K = K) (hu : X.A.units + 65 < cLine) : OpR X (compareOp .NotIn) (rNotInW K) := h ▸ op_notInW hu
end
end FR
set_option Elab.async false
set_option linter.all false
set_option maxRecDepth 100000
/-! raising defs with a star parameter, called -/
namespace FR
open PySem PySem.Spec PyProof.Rows L2 TL
theorem okStarX {P : Program} {w : World} {K : PySem.W.Frag} {mg : Str → Option Value} {base : Heap} {x qual pv : Str} {st : Stmt} {f : Addr} {fd : FuncData} {N ps : List Str} {k : Nat} {sp : Sp} (F : L2.Fun K x qual st f fd) (S : FnScope N (ps ++ [pv]) (defScope st))
    (hb : ∀ (kV doc pm : Value) (an : Option Addr) (cdv ct : Value) (us rest : List Value), us.length = ps.length → bindArgs (PySem.W.fnOf x qual (defArgs st) (defBody st) (defScope st) .none kV doc pm an cdv ct) ⟨us ++ rest, []⟩ = (newTuple rest >>= fun t => pure (ps.zip us ++ [(pv, t)])))
    (hbody : ∀ (cdv : Value) (A : Around) (outer : List Env) (s : Shared) (H : Hp) (vs : List V) (Q : VK) (E : XK), Room k (A.deeper (envOfC qual (defScope st) s.heap.objs.size f cdv)) → sp vs H Q E →
      ∃ t, PSs (cxOf (L2.CX P w) P w K mg base N qual (defScope st) f cdv A outer s H E) (defBody st) t ∧ t { nx := fun _ H' => Q .non H', rt := Q } (start N vs) H) :
    FnR P w K mg base (L2.CX P w) (k + 1) f (fun vs H Q E => ∃ ws rest, vs = ws ++ rest ∧ ws.length = ps.length ∧ rest.length ≤ sizeLine ∧ ∀ p, H p = Option.none → sp (ws ++ [V.ref p]) (upd H p (.tup rest)) Q E) := by
  obtain ⟨oc, od, kV, doc, pm, an, cdv, ct, osl, rfl, lk, hcd⟩ := F.ex
  exact StX.fn_star lk hcd S StX.cxUp (hb kV doc pm an cdv ct) fun A outer s H vs Q E hr hsp => hbody cdv A outer s H vs Q E hr hsp
section
variable {X : Cx} {CX : CXT} {k : Nat} {f : Addr} {sp : Sp} {E : L2.St → XK} {x : Str} {e : Expr} {es : List Expr} {t : TA} {p pos : Pos}
theorem pe_callRX (F : FnR X.prog X.w X.K X.mg X.base CX k f sp) (hr : Room k X.A) (hk : PySem.W.keepIn X.K (.ref f) = true) (hg : Gl X x) (hm : X.mg x = some (.ref f)) (hx : ∀ σ, PassesAt CX X σ (E σ)) (ha : PA X (e :: es) t) (hd : (x == ("__debug__" : Str)) = false := by decide)
    (he : starEach (e :: es) X.env = (false, eval e X.env) :: starEach es X.env := by rfl) (hpl : (backTo pos (starEach es X.env)).any (·.1) = false := by rfl) :
    PE X (.Call (.Name x p) (e :: es) [] pos) (fun σ H Q => t σ H fun vs H1 => sp vs H1 Q (E σ)) := ⟨fun pins s σ H Q I h => by
  refine wpAny_Call_Name_kw (ld_glob I hg hm (PySem.W.callWith_K (h₀ := X.base) I.ok.mod.kin hk (thn (ha.run pos pins s σ H _ I h) fun us s1 hz => ?_) he hpl) hd)
  obtain ⟨vs, H1, I1, r, q⟩ := hz
  refine ⟨I1.kIn, wpAny_call (codeAny_mono (F X.A X.stack s1 H1 us vs Q (E σ) hr I1.env0 r q) fun rr s' hq => ?_)⟩
  match rr, hq with
  | .error ee, hq => exact hx σ pins H1 s1 ee s' I1 hq
  | .ok (.ret u), hq => exact I1.after hq
  | .ok .next, hq => exact hq.elim
  | .ok .brk, hq => exact hq.elim
  | .ok .cont, hq => exact hq.elim⟩
end
end FR
set_option Elab.async false
set_option linter.all false
set_option maxRecDepth 100000
/-! how long a shown list is; facts that hang on some addresses alone -/
namespace FR
open PySem PySem.Spec PyProof.Rows L2 TL
theorem len_sep : (Str.ofString ", ").length = 2 := by decide +kernel
theorem len_open : (Str.ofString "[").length = 1 := by decide +kernel
theorem len_close : (Str.ofString "]").length = 1 := by decide +kernel
theorem len_none : (Str.ofString "").length = 0 := by decide +kernel
theorem shown3 (a b c : PyData) : (PyData.list [a, b, c]).shown.length = a.shown.length + b.shown.length + c.shown.length + 6 := by
  show (listText [a.shown, b.shown, c.shown]).length = _
  unfold listText
  rw [len_app, len_close]
  show ((((((Str.ofString "[" ++ Str.ofString "") ++ a.shown) ++ Str.ofString ", ") ++ b.shown) ++ Str.ofString ", ") ++ c.shown).length + 1 = _
  rw [len_app, len_app, len_app, len_app, len_app, len_app, len_open, len_none, len_sep]
  omega
theorem shown2 (a b : PyData) : (PyData.list [a, b]).shown.length = a.shown.length + b.shown.length + 4 := by
  show (listText [a.shown, b.shown]).length = _
  unfold listText
  rw [len_app, len_close]
  show ((((Str.ofString "[" ++ Str.ofString "") ++ a.shown) ++ Str.ofString ", ") ++ b.shown).length + 1 = _
  rw [len_app, len_app, len_app, len_app, len_open, len_none, len_sep]
  omega
theorem Keep.trans0 {H H1 : Hp} {D : Addr} {o : HO} (k : Keep [] H H1) (hD : H D = none) : Keep [] H (upd H1 D o) := fun b u e hb => by
  rw [upd_ne (ne_of_none e hD)]
  exact k b u e hb
def Held (S : List Addr) (H : Hp) (F : Hp → Prop) : Prop := (∀ a ∈ S, H a ≠ none) ∧ ∀ H', (∀ a ∈ S, H' a = H a) → F H'
section
variable {S T M : List Addr} {H H' : Hp} {F G : Hp → Prop}
theorem Held.at (h : Held S H F) : F H := h.2 H fun _ _ => rfl
theorem Held.mono (h : Held S H F) (k : Keep M H H') (d : ∀ a ∈ S, a ∉ M) : Held S H' F := by
  have e : ∀ a ∈ S, H' a = H a := fun a ha => by
    cases e : H a with
    | none => exact absurd e (h.1 a ha)
    | some o => exact k a o e (d a ha)
  exact ⟨fun a ha => by rw [e a ha]; exact h.1 a ha, fun H2 e2 => h.2 H2 fun a ha => (e2 a ha).trans (e a ha)⟩
theorem Held.mono0 (h : Held S H F) (k : Keep [] H H') : Held S H' F := h.mono k (by simp)
theorem Held.and (h : Held S H F) (g : Held T H G) : Held (S ++ T) H (fun H => F H ∧ G H) :=
  ⟨fun a ha => (List.mem_append.mp ha).elim (h.1 a) (g.1 a), fun H2 e => ⟨h.2 H2 fun a ha => e a (List.mem_append_left _ ha), g.2 H2 fun a ha => e a (List.mem_append_right _ ha)⟩⟩
theorem Held.imp (h : Held S H F) (i : ∀ H, F H → G H) : Held S H G := ⟨h.1, fun H2 e => i _ (h.2 H2 e)⟩
theorem Held.none (h : ∀ H, F H) : Held [] H F := ⟨by simp, fun H2 _ => h H2⟩
theorem Held.one {a : Addr} {o : HO} (h : H a = some o) (i : ∀ H2 : Hp, H2 a = some o → F H2) : Held [a] H F := ⟨fun x hx => by rw [List.mem_singleton.mp hx, h]; simp, fun H2 e => i H2 ((e a (by simp)).trans h)⟩
theorem Held.fresh (h : Held S H F) {p : Addr} (np : H p = Option.none) : p ∉ S := fun hp => h.1 p hp np
end
theorem Dq.mono {H H' : Hp} (k : Keep [] H H') {v : V} {d : PyData} (h : Dq H v d) : Dq H' v d := by
  refine Dq.rec (motive_1 := fun v d _ => Dq H' v d) (motive_2 := fun vs ds _ => DqAll H' vs ds) (motive_3 := fun vs ds _ => DqKv H' vs ds) .non .bl .int .str ?_ ?_ ?_ .nil (fun _ _ a b => .cons a b) .nil (fun _ _ a b => .cons a b) h
  · intro a xs ds hx hb _ ih
    exact .lst (k _ _ hx (by simp)) hb ih
  · intro a xs ds hx _ ih
    exact .tup (k _ _ hx (by simp)) ih
  · intro a kvs ds hx _ ih
    exact .dct (k _ _ hx (by simp)) ih
theorem u65 {k : Nat} {A : Around} (r : Room k A) : A.units + 65 < cLine := by have := r.un; omega
theorem okG0 {P : Program} {w : World} {K : PySem.W.Frag} {mg : Str → Option Value} {base : Heap} {k : Nat} {f : Addr} {sp : Sp} {x qual : Str} {st : Stmt} {fd : FuncData} {N ps : List Str} (F : L2.Fun K x qual st f fd) (S : FnScope N ps (defScope st)) (B : Binds K fd ps []) (hlen : ∀ vs H Q E, sp vs H Q E → vs.length = ps.length)
    (hbody : ∀ (cdv : Value) (A : Around) (outer : List Env) (s : Shared) (H : Hp) (vs : List V) (Q : VK) (E : XK), A.guards = some [] → Room k (A.deeper (envOfC qual (defScope st) s.heap.objs.size f cdv)) → sp vs H Q E →
      ∃ t, PSs (cxOf CX0 P w K mg base N qual (defScope st) f cdv A outer s H E).nox (defBody st) t ∧ t { nx := fun _ H' => Q .non H', rt := Q } (start N vs) H) : FnG P w K mg base CX0 (k + 1) f sp :=
  okG F S B hlen fun cdv A outer s H vs Q E hg hr hs => (hbody cdv A outer s H vs Q E hg hr hs).elim fun t h => ⟨t, h.1.nox, h.2⟩
end FR
set_option Elab.async false
set_option linter.all false
set_option maxRecDepth 100000
/-! what `except` and isinstance say of two classes of the text -/
namespace FR
open PySem PySem.Spec PyProof.Rows L2
/-- an error of the class at S is what «except T» names, or not -/
theorem exm_of {K : PySem.W.Frag} {t S : Addr} {b : Bool} (h1 : PySem.W.subIn K (.ref S) (.type "BaseException") = some true) (h2 : PySem.W.isClsIn K S = true) (h3 : PySem.W.typeIn K (.ref S) = some (.type "type")) (h4 : PySem.W.subIn K (.ref t) (.ref S) = some b) :
    PySem.W.exmOne K (.ref t) (.ref S) = some b := by
  have e1 : (PySem.W.subIn K (.ref S) (.type "BaseException") == some true) = true := by rw [h1] <;> rfl
  have e2 : ((PySem.W.clsIn K S).isSome && PySem.W.typeIn K (.ref S) == some (.type "type")) = true := by
    rw [show (PySem.W.clsIn K S).isSome = true from h2, h3] <;> rfl
  unfold PySem.W.exmOne
  rw [if_pos e1]
  show (if ((PySem.W.clsIn K S).isSome && PySem.W.typeIn K (.ref S) == some (.type "type")) = true then PySem.W.subIn K (.ref t) (.ref S) else none) = some b
  rw [if_pos e2]
  exact h4
theorem kit_of {K : PySem.W.Frag} {t S : Addr} {b : Bool} (hs : PySem.W.subIn K (.ref t) (.ref t) = some true) (h2 : PySem.W.isClsIn K S = true) (h3 : PySem.W.typeIn K (.ref S) = some (.type "type")) (h4 : PySem.W.subIn K (.ref t) (.ref S) = some b) :
    PySem.W.kitOne K (.ref t) (.ref S) = some b := by
  have e2 : ((PySem.W.clsIn K S).isSome && PySem.W.typeIn K (.ref S) == some (.type "type")) = true := by
    rw [show (PySem.W.clsIn K S).isSome = true from h2, h3] <;> rfl
  unfold PySem.W.kitOne
  by_cases e : ((Value.ref t : Value) == .ref S) = true
  · rw [if_pos e]
    have e' : t = S := by simpa using e
    subst e'
    exact hs.symm.trans h4
  · rw [if_neg e]
    show (if ((PySem.W.clsIn K S).isSome && PySem.W.typeIn K (.ref S) == some (.type "type")) = true then PySem.W.subIn K (.ref t) (.ref S) else none) = some b
    rw [if_pos e2]
    exact h4

end FR
set_option Elab.async false
set_option linter.all false
set_option maxRecDepth 100000
/-! operators, `in`, len, bool, str and == of own classes whose instances have a dict -/
namespace FR
open PySem PySem.Spec PyProof.Rows L2 TL
open SlX (cmpback run_at)
section
variable {X : Cx} {pins : List (Addr × Obj)} {σ : L2.St} {H : Hp} {s : Shared} {C g : Addr} {n : Nat} {sp : Sp} {E : XK} {CX : CXT}
theorem ins_inst {a dx : Addr} {fs : List (Str × V)} (I : Inv X pins σ H s) (e : H a = some (.ins C dx fs)) : ∃ od, PySem.W.InstAt s.heap a (PySem.W.instObj C dx) C (some od) := by
  obtain ⟨mA, O, _⟩ := ins_get I.hok e
  obtain ⟨od, J, _⟩ := O.look
  exact ⟨od, J⟩
/-- x op y, both of the class at C, its def for op at g -/
def rBinI (C : Addr) (sp : Sp) (E : XK) : R2 := fun x y H Q => ∃ a dx fs b dy gs, x = .ref a ∧ y = .ref b ∧ H a = some (.ins C dx fs) ∧ H b = some (.ins C dy gs) ∧ sp [x, y] H Q E
theorem op_binI {op : Operator} (hc : PySem.W.selfFirst X.K C = true) (hs : PySem.W.findIn X.K (.ref C) (PySem.dunder op.info.2) = some (some (.ref g))) (hf : PySem.W.isFn X.K (.ref g) = true) (F : FnR X.prog X.w X.K X.mg X.base CX n g sp)
    (hr : Room n X.A) (hx : Passes CX X E) : OpR X (binaryOp op) (rBinI C sp E) := by
  intro pins s σ H x y v u Q I rx ry h
  obtain ⟨a, dx, fs, b, dy, gs, rfl, rfl, ha, hb, q⟩ := h
  cases (show v = Value.ref a from rx)
  cases (show u = Value.ref b from ry)
  obtain ⟨od, J⟩ := ins_inst I ha
  obtain ⟨od', J'⟩ := ins_inst I hb
  obtain ⟨m, hF⟩ := I.fr
  refine PySem.W.binop_K (op := op) hF I.ok.mod.kin J J'.type hc hs hf ?_
  refine wpAny_mono (wpAny_call (run_fnR (us := [.ref a, .ref b]) (vs := [.ref a, .ref b]) F hr hx I (.cons rfl (.cons rfl .nil)) q)) (fun w s' z => ?_) fun _ _ x => x
  obtain ⟨z', H', I', rz, qz⟩ := z
  exact cmpback rz ⟨z', H', I', rz, qz⟩
/-- ~x -/
def rInvI (C : Addr) (sp : Sp) (E : XK) : V → Hp → VK → Prop := fun x H Q => ∃ a dx fs, x = .ref a ∧ H a = some (.ins C dx fs) ∧ sp [x] H Q E
theorem un_invI (hs : PySem.W.findIn X.K (.ref C) "__invert__" = some (some (.ref g))) (hf : PySem.W.isFn X.K (.ref g) = true) (F : FnR X.prog X.w X.K X.mg X.base CX n g sp)
    (hr : Room n X.A) (hx : Passes CX X E) : UnR X (unaryOp .Invert) (rInvI C sp E) := by
  intro pins s σ H x v Q I rx h
  obtain ⟨a, dx, fs, rfl, ha, q⟩ := h
  cases (show v = Value.ref a from rx)
  obtain ⟨od, J⟩ := ins_inst I ha
  obtain ⟨m, hF⟩ := I.fr
  exact PySem.W.ksp_inv hF I.ok.mod.kin J hs hf (wpAny_call (run_fnR (us := [.ref a]) (vs := [.ref a]) F hr hx I (.cons rfl .nil) q))
/-- x op y (a comparison), x of the class at C whose def for it is at g, y an instance of it too -/
def rCmpI (C : Addr) (sp : Sp) (E : XK) : R2 := fun x y H Q => ∃ a dx fs b dy gs, x = .ref a ∧ y = .ref b ∧ H a = some (.ins C dx fs) ∧ H b = some (.ins C dy gs) ∧ sp [x, y] H Q E
theorem op_cmpI {op : CmpOp} (hop : ∀ a b, compareOp op a b = richCompare op a b) (hs : PySem.W.findIn X.K (.ref C) (cmpInfo op).2.1 = some (some (.ref g))) (hf : PySem.W.isFn X.K (.ref g) = true) (F : FnR X.prog X.w X.K X.mg X.base CX n g sp)
    (hr : Room n X.A) (hx : Passes CX X E) : OpR X (compareOp op) (rCmpI C sp E) := by
  intro pins s σ H x y v u Q I rx ry h
  obtain ⟨a, dx, fs, b, dy, gs, rfl, rfl, ha, hb, q⟩ := h
  cases (show v = Value.ref a from rx)
  cases (show u = Value.ref b from ry)
  obtain ⟨od, J⟩ := ins_inst I ha
  obtain ⟨od', J'⟩ := ins_inst I hb
  obtain ⟨m, hF⟩ := I.fr
  rw [hop]
  refine PySem.W.cmp_K (op := op) (tb := .ref C) hr.units0 hF I.ok.mod.kin J J'.type (by unfold PySem.W.notFirst; simp) hs hf ?_
  refine wpAny_mono (wpAny_call (run_fnR (us := [.ref a, .ref b]) (vs := [.ref a, .ref b]) F hr hx I (.cons rfl (.cons rfl .nil)) q)) (fun w s' z => ?_) fun _ _ x => x
  obtain ⟨z', H', I', rz, qz⟩ := z
  exact cmpback rz ⟨z', H', I', rz, qz⟩
/-- v in x, x of the class at C; the answer of its def is a boolean -/
def rInI (C : Addr) (sp : Sp) (E : XK) : R2 := fun v x H Q => ∃ a dx fs, x = .ref a ∧ H a = some (.ins C dx fs) ∧ sp [x, v] H (fun z H' => ∃ b, z = .bl b ∧ Q (.bl b) H') E
theorem op_inI (hs : PySem.W.findIn X.K (.ref C) "__contains__" = some (some (.ref g))) (hf : PySem.W.isFn X.K (.ref g) = true) (F : FnR X.prog X.w X.K X.mg X.base CX n g sp)
    (hr : Room n X.A) (hx : Passes CX X E) : OpR X (compareOp .In) (rInI C sp E) := by
  intro pins s σ H x y v u Q I rx ry h
  obtain ⟨a, dx, fs, rfl, ha, q⟩ := h
  cases (show u = Value.ref a from ry)
  obtain ⟨od, J⟩ := ins_inst I ha
  obtain ⟨m, hF⟩ := I.fr
  refine PySem.W.in_K hF I.ok.mod.kin J hs hf (wpAny_mono (wpAny_call (run_fnR (us := [.ref a, v]) (vs := [.ref a, x]) F hr hx I (.cons rfl (.cons rx .nil)) q)) (fun w s' z => ?_) fun _ _ x => x)
  obtain ⟨z', H', I', rz, b, eb, qz⟩ := z
  subst eb
  cases (show w = Value.bool b from rz)
  exact wpAny_truthy_bool ⟨.bl b, H', I', rfl, qz⟩
/-- the truth of x, of the class at C with an own __bool__ -/
def rTruI (C : Addr) (sp : Sp) (E : XK) : V → Hp → (Bool → Hp → Prop) → Prop := fun x H Q => ∃ a dx fs, x = .ref a ∧ H a = some (.ins C dx fs) ∧ sp [x] H (fun z H' => ∃ b, z = .bl b ∧ Q b H') E
theorem tru_I (hs : PySem.W.findIn X.K (.ref C) "__bool__" = some (some (.ref g))) (hf : PySem.W.isFn X.K (.ref g) = true) (F : FnR X.prog X.w X.K X.mg X.base CX n g sp)
    (hr : Room n X.A) (hx : Passes CX X E) : TruR X (rTruI C sp E) := by
  intro pins s σ H x v Q I rx h
  obtain ⟨a, dx, fs, rfl, ha, q⟩ := h
  cases (show v = Value.ref a from rx)
  obtain ⟨od, J⟩ := ins_inst I ha
  obtain ⟨m, hF⟩ := I.fr
  refine PySem.W.truthy_K hF I.ok.mod.kin J hs hf (wpAny_mono (wpAny_call (run_fnR (us := [.ref a]) (vs := [.ref a]) F hr hx I (.cons rfl .nil) q)) (fun w s' z => ?_) fun _ _ x => x)
  obtain ⟨z', H', I', rz, b, eb, qz⟩ := z
  subst eb
  cases (show w = Value.bool b from rz)
  exact ⟨H', I', qz⟩
/-- len(x), x of the class at C with an own __len__ -/
def rLenI (C : Addr) (sp : Sp) (E : XK) : List V → Hp → VK → Prop := fun xs H Q => ∃ a dx fs, xs = [.ref a] ∧ H a = some (.ins C dx fs) ∧ sp xs H (fun z H' => ∃ i, z = .int i ∧ 0 ≤ i ∧ i < 2 ^ 63 ∧ Q (.int i) H') E
theorem call_lenI (hs : PySem.W.findIn X.K (.ref C) "__len__" = some (some (.ref g))) (hf : PySem.W.isFn X.K (.ref g) = true) (F : FnR X.prog X.w X.K X.mg X.base CX n g sp)
    (hr : Room (n + 1) X.A) (hx : Passes CX X E) : CallR X (.builtin "len") (rLenI C sp E) := by
  intro pins s σ H xs us Q I r h
  obtain ⟨a, dx, fs, rfl, ha, q⟩ := h
  obtain ⟨u, rfl, ru⟩ := r.one
  cases (show u = Value.ref a from ru)
  obtain ⟨od, J⟩ := ins_inst I ha
  obtain ⟨m, hF⟩ := I.fr
  refine PySem.W.len_K hF I.ok.mod.kin J hs hf (wpAny_mono (wpAny_call (run_at (us := [.ref a]) (ws := [.ref a]) F hr.in1 I.env0.in1 hx I (.cons rfl .nil) q)) (fun w s' z => ?_) fun _ _ x => x)
  obtain ⟨z', H', I', rz, i, ei, h0, h1, qz⟩ := z
  subst ei
  obtain ⟨t, e⟩ := (show ∃ t, w = Value.int i t from rz)
  cases e
  exact ⟨⟨h0, h1⟩, .int i, H', I'.tok _, ⟨_, rfl⟩, qz⟩
/-- str(x), x of the class at C with an own __str__ -/
def rStrI (C : Addr) (sp : Sp) (E : XK) : List V → Hp → VK → Prop := fun xs H Q => ∃ a dx fs, xs = [.ref a] ∧ H a = some (.ins C dx fs) ∧ sp xs H (fun z H' => ∃ t, z = .str t ∧ Q (.str t) H') E
theorem call_strI (hs : PySem.W.findIn X.K (.ref C) "__str__" = some (some (.ref g))) (hf : PySem.W.isFn X.K (.ref g) = true) (F : FnR X.prog X.w X.K X.mg X.base CX n g sp)
    (hr : Room (n + 2) X.A) (hx : Passes CX X E) : CallR X (.type "str") (rStrI C sp E) := by
  intro pins s σ H xs us Q I r h
  obtain ⟨a, dx, fs, rfl, ha, q⟩ := h
  obtain ⟨u, rfl, ru⟩ := r.one
  cases (show u = Value.ref a from ru)
  obtain ⟨od, J⟩ := ins_inst I ha
  have hr2 : Room n X.A.in1.in1 := (show Room (n + 1) X.A.in1 from Room.in1 hr).in1
  refine PySem.W.kso_call hr2.units0 I.kIn J hs hf (wpAny_mono (wpAny_call (run_at (us := [.ref a]) (ws := [.ref a]) F hr2 I.env0.in1.in1 hx I (.cons rfl .nil) q)) (fun w s' z => ?_) fun _ _ x => x)
  obtain ⟨z', H', I', rz, t, et, qz⟩ := z
  subst et
  obtain ⟨t', e⟩ := (show ∃ t', w = Value.str t t' from rz)
  cases e
  exact ⟨.str t, H', I', ⟨_, rfl⟩, qz⟩
end
end FR
set_option Elab.async false
set_option linter.all false
set_option maxRecDepth 100000
/-! x op= y of own classes without a def of their own for op= -/
namespace FR
open PySem PySem.W PySem.Calls PyProof.Rows
section
variable {prog : Program} {w : World} {M : Model} {A : Around} {E : Value → Shared → Prop} {s : Shared} {K : Frag} {x C L f : Addr} {h₀ : Heap} {m : Str → Option Value} {ox : Obj} {od : Option Obj} {nm : String} {cd : ClassData}
theorem inplace_no {h : Heap} {add : Bool} (X : K.In h) (hc : clsIn K C = some cd) (hm : cd.mro = [.ref C, .type "object"]) (h1 : findIn K (.ref C) (dunderI nm) = some none) (h2 : findIn K (.type "object") (dunderI nm) = some none) :
    Looks M h (fillsInplaceSlot (.ref C) nm add) false := by
  intro A Q E s k q
  have Lm : Looks M h (mroOf (.ref C)) cd.mro := (looks_clsIn X hc).andThen (f := fun cd => pure cd.mro) .now
  have Lm' := Lm.keeps k
  obtain ⟨hh, g, d, tk, os⟩ := s
  have X' : K.In hh := X.keeps k
  have L1 : Looks M hh (typeLookup (.ref C) (dunderI nm)) none := looks_findIn X' h1
  have L2 : Looks M hh (typeLookup (.type "object") (dunderI nm)) none := looks_findIn X' h2
  unfold fillsInplaceSlot
  refine wpAny_bind (Lm'.at ?_)
  rw [hm, List.anyM_cons]
  refine wpAny_bind ?_
  repeat lk
  exact q
theorem bin1_own {b : Value} {Q : Value → Shared → Prop} (X : K.In s.heap) (I : InstAt s.heap x ox C od) (hb : Looks M s.heap (typeOf b) (.ref C)) (hc : clsIn K C = some cd) (hm : cd.mro = [.ref C, .type "object"])
    (hs : findIn K (.ref C) (PySem.dunder nm) = some (some (.ref f))) (hf : isFn K (.ref f) = true)
    (h : wpAny M A (call (.ref f) [.ref x, b]) (PySem.W.CmpBack Q) E s) : wpAny M A (binaryOp1 nm (.ref x) b) (fun r s' => ∃ v, r = some v ∧ Q v s') E s := by
  have one := ksp_try X I hs hf h
  obtain ⟨hh, g, d, tk, os⟩ := s
  have L1 : Looks M hh (typeOf (.ref x)) (.ref C) := I.type
  have L2 : Looks M hh (typeOf b) (.ref C) := hb
  have L3 : Looks M hh (fillsNumberSlot (.ref C) nm) true := fills_K X hc hm hs
  unfold binaryOp1
  refine wpAny_bind (L1.at (wpAny_bind (L2.at (wpAny_bind (L3.at ?_)))))
  simp only [beq_self_eq_true, if_true]
  ksp_lk
  refine wpAny_mono one (fun r s' hr' => ?_) fun _ _ e => e
  obtain ⟨v, rfl, hq⟩ := hr'
  ksp_lk
  exact ⟨_, rfl, hq⟩
theorem inplace_own {op : Operator} {b : Value} {Q : Value → Shared → Prop} (X : K.In s.heap) (I : InstAt s.heap x ox C od) (hb : Looks M s.heap (typeOf b) (.ref C)) (hc : clsIn K C = some cd) (hm : cd.mro = [.ref C, .type "object"])
    (h1 : findIn K (.ref C) (dunderI op.info.2) = some none) (h2 : findIn K (.type "object") (dunderI op.info.2) = some none)
    (hs : findIn K (.ref C) (PySem.dunder op.info.2) = some (some (.ref f))) (hf : isFn K (.ref f) = true)
    (h : wpAny M A (call (.ref f) [.ref x, b]) (PySem.W.CmpBack Q) E s) : wpAny M A (inplaceOp op (.ref x) b) Q E s := by
  have one := bin1_own X I hb hc hm hs hf h
  obtain ⟨hh, g, d, tk, os⟩ := s
  have L1 : Looks M hh (typeOf (.ref x)) (.ref C) := I.type
  have L2 : Looks M hh (fillsInplaceSlot (.ref C) op.info.2 (op == .Add)) false := inplace_no X hc hm h1 h2
  unfold inplaceOp
  refine wpAny_holding ?_
  refine wpAny_bind (L1.at (wpAny_bind (L2.at ?_)))
  simp only [Bool.false_eq_true, if_false]
  refine wpAny_bind (wpAny_mono one (fun r s' hr' => ?_) fun _ _ e => e)
  obtain ⟨v, rfl, hq⟩ := hr'
  exact wpAny_pure hq
theorem ifBound_slot {name : Str} {id : String} {args : List Value} {Q : Option Value → Shared → Prop} (X : K.In s.heap) (I : InstAt s.heap x ox C od) (hs : findIn K (.ref C) name = some (some (.builtin id)))
    (hb : ∀ self, bindSpecial (.builtin id) self = pure (.builtin id, [self])) (h : wpAny M A (call (.builtin id) (.ref x :: args)) (fun v => Q (some v)) E s) : wpAny M A (callSpecialIfBound? (.ref x) name args) Q E s := by
  simp only [callSpecialIfBound?, bindSpecialIfBound?]
  refine wpAny_holding (wpAny_bind (wpAny_bind (wpAny_bind (I.type.here ((looks_findIn X hs).here ?_)))))
  simp only [hb]
  refine wpAny_bind (wpAny_askSetting (wpAny_ite ?_))
  have fin : wpAny M A (call (.builtin id) ([.ref x] ++ args) >>= fun v => pure (some v)) Q E s := wpAny_bind (wpAny_mono h (fun v s' h' => wpAny_pure h') fun _ _ h' => h')
  split
  · exact wpAny_bind (wpAny_pure (wpAny_pure (by exact fin)))
  · exact wpAny_tryCatch (wpAny_bind (wpAny_pure (wpAny_pure (by exact fin))))
open Builtin in
/-- object's «not equal» where the class has its own «equal», which answers a boolean -/
theorem objNe_own {b : Value} {Q : Value → Shared → Prop} (hu : A.in1.units < cLine) (X : K.In s.heap) (I : InstAt s.heap x ox C od) (hm : mroIn K C (.type "object") = some true) (hs : findIn K (.ref C) "__eq__" = some (some (.ref f))) (hf : isFn K (.ref f) = true)
    (h : wpAny (model prog w) A.in1 (call (.ref f) [.ref x, b]) (fun r s' => ∃ v, r = .bool v ∧ Q (.bool (!v)) s') E s) : wpAny (model prog w) A (call (.builtin "object.__ne__") [.ref x, b]) Q E s := by
  refine wpAny_call (codeAny_call_builtin PySem.F.cmp_object.ne.plain PySem.F.cmpEntry_ne (check_slot (i := "object.__ne__") (owner := "object") (n := "__ne__") (by decide +kernel) (by decide +kernel) (I.type.andThen (looks_mroIn X hm)) (PySem.F.cmpArgs_ne _ _) ?_))
  unfold Builtin.«object.__ne__»
  refine wpAny_bind (m := slotArgs "__ne__" 1 _) (wpAny_pure ?_)
  refine wpAny_bind (m := cRoomFor _ _) (wpAny_cRoomFor hu ?_)
  refine wpAny_bind (m := callSpecialIfBound? (.ref x) (Str.ofString "__eq__") _) (ifBound_K X I hs hf (wpAny_mono h (fun r s' hq => ?_) fun _ _ y => y))
  obtain ⟨v, rfl, q⟩ := hq
  refine wpAny_bind (wpAny_truthy_bool ?_)
  exact wpAny_pure q
/-- x != b where the class of x has an own «equal» alone -/
theorem rc_ne_own {b tb : Value} {Q : Value → Shared → Prop} (hu : A.units < cLine) (hu1 : A.in1.units < cLine) (X : K.In s.heap) (I : InstAt s.heap x ox C od) (hb : Looks (model prog w) s.heap (typeOf b) tb) (hn : notFirst K C tb = true)
    (hm : mroIn K C (.type "object") = some true) (hne : findIn K (.ref C) "__ne__" = some (some (.builtin "object.__ne__"))) (hs : findIn K (.ref C) "__eq__" = some (some (.ref f))) (hf : isFn K (.ref f) = true)
    (h : wpAny (model prog w) A.in1 (call (.ref f) [.ref x, b]) (fun r s' => ∃ v, r = .bool v ∧ Q (.bool (!v)) s') E s) : wpAny (model prog w) A (richCompare .NotEq (.ref x) b) Q E s := by
  have one : wpAny (model prog w) A (tryCompare (.ref x) (cmpInfo .NotEq).2.1 b) (fun r s' => ∃ v, r = some v ∧ Q v s') E s := by
    unfold tryCompare
    refine wpAny_bind (ifBound_slot X I hne PySem.F.cmp_object.ne.bind (objNe_own hu1 X I hm hs hf (wpAny_mono h (fun v s' hv => ?_) fun _ _ e => e)))
    obtain ⟨v, rfl, q⟩ := hv
    exact ⟨v, rfl, wpAny_pure ⟨_, rfl, q⟩⟩
  unfold richCompare
  simp only [oneThing_ref]
  refine wpAny_holding (wpAny_bind (wpAny_cRoomFor hu ?_))
  refine wpAny_bind (I.type.here (wpAny_bind (hb.here ?_)))
  split
  · rename_i q
    have e : subIn K tb (.ref C) = some false := by
      rcases Bool.or_eq_true_iff.mp hn with e | e
      · rw [beq_iff_eq.mp e] at q; simp at q
      · exact beq_iff_eq.mp e
    refine wpAny_bind ((looks_subIn X e).here ?_)
    simp only [Bool.false_eq_true, if_false]
    refine wpAny_bind (wpAny_mono one (fun r s' z => ?_) fun _ _ e => e)
    obtain ⟨v, rfl, hq⟩ := z
    exact wpAny_pure hq
  · refine wpAny_bind (wpAny_pure ?_)
    simp only [Bool.false_eq_true, if_false]
    refine wpAny_bind (wpAny_mono one (fun r s' z => ?_) fun _ _ e => e)
    obtain ⟨v, rfl, hq⟩ := z
    exact wpAny_pure hq
end
section
open L2
open SlX (cmpback run_at)
variable {X : Cx} {C g : Addr} {n : Nat} {sp : Sp} {E : XK} {CX : CXT}
theorem op_ibinI {op : Operator} {cd : ClassData} (hc : clsIn X.K C = some cd) (hm : cd.mro = [.ref C, .type "object"]) (h1 : findIn X.K (.ref C) (dunderI op.info.2) = some none) (h2 : findIn X.K (.type "object") (dunderI op.info.2) = some none)
    (hs : findIn X.K (.ref C) (PySem.dunder op.info.2) = some (some (.ref g))) (hf : isFn X.K (.ref g) = true) (F : FnR X.prog X.w X.K X.mg X.base CX n g sp) (hr : Room n X.A) (hx : Passes CX X E) : InOp X op (rBinI C sp E) := by
  intro pins s σ H x y v u Q I rx ry h
  obtain ⟨a, dx, fs, b, dy, gs, rfl, rfl, ha, hb, q⟩ := h
  cases (show v = Value.ref a from rx)
  cases (show u = Value.ref b from ry)
  obtain ⟨od, J⟩ := ins_inst I ha
  obtain ⟨od', J'⟩ := ins_inst I hb
  refine inplace_own I.kIn J J'.type hc hm h1 h2 hs hf ?_
  refine wpAny_mono (wpAny_call (run_fnR (us := [.ref a, .ref b]) (vs := [.ref a, .ref b]) F hr hx I (.cons rfl (.cons rfl .nil)) q)) (fun w s' z => ?_) fun _ _ x => x
  obtain ⟨z', H', I', rz, qz⟩ := z
  exact cmpback rz ⟨z', H', I', rz, qz⟩
/-- x != y, both of the class at C with an own «equal» alone -/
def rNeI (C : Addr) (sp : Sp) (E : XK) : R2 := fun x y H Q => ∃ a dx fs b dy gs, x = .ref a ∧ y = .ref b ∧ H a = some (.ins C dx fs) ∧ H b = some (.ins C dy gs) ∧ sp [x, y] H (fun z H' => ∃ v, z = .bl v ∧ Q (.bl (!v)) H') E
theorem op_neI (hm : mroIn X.K C (.type "object") = some true) (hne : findIn X.K (.ref C) "__ne__" = some (some (.builtin "object.__ne__"))) (hs : findIn X.K (.ref C) "__eq__" = some (some (.ref g))) (hf : isFn X.K (.ref g) = true)
    (F : FnR X.prog X.w X.K X.mg X.base CX n g sp) (hr : Room (n + 1) X.A) (hx : Passes CX X E) : OpR X (compareOp .NotEq) (rNeI C sp E) := by
  intro pins s σ H x y v u Q I rx ry h
  obtain ⟨a, dx, fs, b, dy, gs, rfl, rfl, ha, hb, q⟩ := h
  cases (show v = Value.ref a from rx)
  cases (show u = Value.ref b from ry)
  obtain ⟨od, J⟩ := ins_inst I ha
  obtain ⟨od', J'⟩ := ins_inst I hb
  refine rc_ne_own (tb := .ref C) hr.units0 hr.in1.units0 I.kIn J J'.type (by unfold notFirst; simp) hm hne hs hf ?_
  refine wpAny_mono (wpAny_call (run_at (us := [.ref a, .ref b]) (ws := [.ref a, .ref b]) F hr.in1 I.env0.in1 hx I (.cons rfl (.cons rfl .nil)) q)) (fun w s' z => ?_) fun _ _ x => x
  obtain ⟨z', H', I', rz, b', eb, qz⟩ := z
  subst eb
  cases (show w = Value.bool b' from rz)
  exact ⟨b', rfl, .bl (!b'), H', I', rfl, qz⟩
end
end FR
set_option Elab.async false
set_option linter.all false
set_option maxRecDepth 100000
/-! whole numbers as tests; dicts of the module inside a comprehension -/
namespace FR
open PySem PySem.Spec PyProof.Rows L2
def tTruI (ta : TE) : TT := fun σ H Q => ta σ H fun x H' => ∃ i, x = .int i ∧ Q (i != 0) H'
theorem pt_truthI {X : Cx} {a : Expr} {ta : TE} (ha : PE X a ta) (he : ∀ whole, isTrue a X.env whole = (do let v ← whole; standAt a.pos; holding [v] (truthy v))) : PT X a (tTruI ta) := by
  refine ⟨fun pins s σ H Q I h => ?_⟩
  exact isTrue_plain (thn (ha.run pins s σ H _ I h) fun v s1 ⟨x, H1, I1, r1, i, ex, q1⟩ => tru_ok pins s1 σ H1 x v Q I1 r1 ⟨i != 0, by subst ex; rfl, q1⟩) (he _)
theorem ix_kdictK {X : Cx} {K : PySem.W.Frag} {w : World} (hk : X.K = K) (hw : X.w = w) : IxR X (rIxD K w) := by
  subst hk hw
  exact ix_kdict
def rInW (K : PySem.W.Frag) (d : Addr) : R2 := fun x y H Q => ∃ (z : Str) (r : Option Value), x = .str z ∧ y = .ref d ∧ PySem.W.nsIn K d z = some r ∧ Q (.bl r.isSome) H
theorem op_inW {X : Cx} {K : PySem.W.Frag} {w : World} {d : Addr} (hk : X.K = K) (hw : X.w = w) (D : ∃ es n, KDict K w d es n) : OpR X (compareOp .In) (rInW K d) := by
  subst hk hw
  obtain ⟨es, n, D⟩ := D
  exact op_in_kd D
end FR
set_option Elab.async false
set_option linter.all false
set_option maxRecDepth 100000
/-! list(x) of a text -/
namespace FR
open PySem PySem.Spec PyProof.Rows L2 TL
def rListT : List V → Hp → VK → Prop := fun xs H Q => ∃ x : Str, xs = [.str x] ∧ x.cps.size ≤ sizeLine ∧ NewS (.lst ((tl x).map fun c => .str ⟨#[c]⟩)) Q H
theorem call_listT {X : Cx} (hc : X.calm = true) : CallR X (.type "list") rListT := by
  intro pins s σ H xs us Q I r h
  obtain ⟨x, rfl, hz, q⟩ := h
  obtain ⟨u, rfl, t, rfl⟩ : ∃ u, us = [u] ∧ ∃ t, u = Value.str x t := by
    cases r with
    | cons a b => cases b; exact ⟨_, rfl, a⟩
  refine call_list_str (hn := hz) (I.ok.hd hc) x t fun h' tk acc' c' hkeep hS hacc => ?_
  refine ⟨.ref s.heap.objs.size, upd H s.heap.objs.size (.lst ((tl x).map fun c => .str ⟨#[c]⟩)), I.laid hkeep (Nat.le_refl _) (show ObjOk X.prog X.w _ _ _ (.lst ((tl x).map fun c => .str ⟨#[c]⟩)) from ⟨?_, acc'.toList, c', ?_, ?_⟩), rfl,
    q.to _ _ (I.hok.fresh (Nat.le_refl _)) I.big (keep_new (I.hok.fresh (Nat.le_refl _))) upd_same⟩
  · rw [List.length_map]
    simpa using hz
  · have el : acc'.toList.length = acc'.size := by simp
    refine vals_of_at (by rw [List.length_map, el, hacc.1]; simp) fun j y v h1 h2 => ?_
    obtain ⟨c, tk2, hj, rfl⟩ := hacc.2 j v (by rw [← Array.getElem?_toList]; exact h2)
    rw [List.getElem?_map, show (tl x)[j]? = some c by simpa using hj] at h1
    cases h1
    exact ⟨tk2, rfl⟩
  · rw [Array.toArray_toList]; exact hS
end FR
set_option Elab.async false
set_option linter.all false
set_option maxRecDepth 100000
/-! x = e.replace(old, new) in a def: it wants that something has been made before, as it has where a def runs -/
namespace FR
open PySem PySem.Spec PyProof.Rows L2 TL
theorem okT {P : Program} {w : World} {K : PySem.W.Frag} {mg : Str → Option Value} {base : Heap} {x qual : Str} {st : Stmt} {f : Addr} {fd : FuncData} {N ps : List Str} {k : Nat} {sp : Sp}
    (F : Fun K x qual st f fd) (S : FnScope N ps (defScope st)) (nc : ∀ y ∈ (defScope st).names, y.2 ≠ NameKind.cell) (hp : 1 ≤ ps.length) (len : ∀ vs H Q E, sp vs H Q E → vs.length = ps.length)
    (body : ∀ (cdv : Value) (A : Around) (outer : List Env) (s : Shared) (H : Hp) (vs : List V) (Q : VK) (E : XK), Room k (A.deeper (envOfC qual (defScope st) s.heap.objs.size f cdv)) → sp vs H Q E →
      ∃ t, PSsT (cxOf CX0 P w K mg base N qual (defScope st) f cdv A outer s H E) (defBody st) t ∧ t { nx := fun _ H' => Q .non H', rt := Q } (start N vs) H) :
    FnOk P w K mg base CX0 (k + 1) f fd ps sp := by
  obtain ⟨oc, od, kV, doc, pm, an, cdv, ct, osl, rfl, hl, hc⟩ := F.ex
  exact fn_ofT hl hc S nc hp len fun A outer s H vs Q E hr h => body cdv A outer s H vs Q E hr h
theorem pst_asg {X : Cx} {pos : Pos} {tg e : Expr} {te : TE} {g : TG} (he : PET X e te) (hg : PG X tg g) (h1 : swapsWithSole [tg] e pos.line X.env = pure false := by rfl)
    (h2 : swappedStores [tg] e X.env = pure none := by rfl) (h3 : (assignEach [tg] X.env).map (fun x => x.2) = [assign tg X.env] := by rfl) : PST X (.Assign [tg] e pos) (tAsg te g) := by
  intro pins s σ H D ht I h
  refine wpAny_Assign_stores (wpAny_mono (he pins s σ H _ ht I h) (fun v s1 z => ?_) fun _ _ z => z) h1 h2
  obtain ⟨x, H1, I1, r1, q⟩ := z
  rw [h3]
  unfold assignAll
  exact wpAny_mono (hg.run pins s1 σ H1 x v _ I1 r1 q) (fun u s2 z => z) fun _ _ z => z
/-- without its slashes -/
def noSl (s : Str) : Str := Txt.replace s "/" ""
theorem repl_filter (c : Nat) : ∀ l : List Nat, PySem.StrLaws.replL [c] [] l = l.filter (fun d => d != c)
  | [] => PySem.StrLaws.replL_nil
  | d :: r => by
    by_cases e : d = c
    · subst e
      rw [PySem.StrLaws.replL_hit (by simp) (by simp)]
      simpa using repl_filter d r
    · rw [PySem.StrLaws.replL_miss (by simp [e]), repl_filter c r]
      simp [e]
theorem tl_noSl (s : Str) : tl (noSl s) = (tl s).filter (fun d => d != 47) := by
  refine (PySem.StrLaws.replace_list (x := s) (y := "/") (z := "") (by decide +kernel)).trans ?_
  exact repl_filter 47 _
theorem noSl_asc {s : Str} (a : Asc s) : Asc (noSl s) := fun c hc => a c (by rw [tl_noSl] at hc; exact (List.mem_filter.mp hc).1)
end FR
set_option Elab.async false
set_option linter.all false
set_option maxRecDepth 100000
/-! the parts of a path, and what is left of it without its slashes -/
namespace FR
open PySem PySem.Spec PyProof.Rows L2 TL
theorem spl_all (c : Nat) : ∀ (l acc : List Nat), (spl [c] 0 acc l).flatten = acc ++ l.filter (fun d => d != c)
  | [], acc => by rw [spl_nil]; simp
  | x :: r, acc => by
    by_cases e : pre [c] (x :: r) = true
    · rw [spl_hit e]
      have : x = c := by rw [pre_one] at e; simpa using e
      subst this
      have := spl_all x r []
      simp only [List.flatten_cons]
      show acc ++ (spl [x] 0 [] r).flatten = _
      rw [this]
      simp
    · rw [spl_miss (by simpa using e), spl_all c r (acc ++ [x])]
      have : x ≠ c := by rw [pre_one] at e; simpa using e
      simp [this]
theorem path_parts {s : Str} (h : Txt.startswith s ⟨#[47]⟩ = true) : (((Txt.split s ⟨#[47]⟩).drop 1).map tl).flatten = tl (noSl s) ∧ (Txt.split s ⟨#[47]⟩).drop 1 ≠ [] := by
  rw [starts_one] at h
  have e1 : ((Txt.split s ⟨#[47]⟩).drop 1).map tl = (spl [47] 0 [] (tl s)).drop 1 := by rw [List.map_drop, split_tl _ (by decide)]
  cases e : tl s with
  | nil => rw [e] at h; cases h
  | cons c r =>
    rw [e] at h
    have : c = 47 := by simpa using h
    subst this
    have e2 : (spl [47] 0 [] (47 :: r)).drop 1 = spl [47] 0 [] r := by
      rw [spl_hit (by rw [pre_one]; rfl)]
      rfl
    rw [e, e2] at e1
    constructor
    · rw [e1, spl_all, tl_noSl, e]
      simp
    · intro h0
      rw [h0] at e1
      have : ∀ (l acc : List Nat), spl [47] 0 acc l ≠ [] := by
        intro l
        induction l with
        | nil => intro acc; rw [spl_nil]; simp
        | cons x r ih =>
          intro acc
          by_cases e : pre [47] (x :: r) = true
          · rw [spl_hit e]; simp
          · rw [spl_miss (by simpa using e)]; exact ih _
      exact this r [] e1.symm
theorem path_split {s : Str} (h : Txt.startswith s ⟨#[47]⟩ = true) (p : Nat → Bool) :
    ((Txt.split s ⟨#[47]⟩).drop 1).all (fun u => decide (u ≠ Str.ofString "" ∧ u.length ≤ 8) && (tl u).all p) =
      ((decide (noSl s ≠ Str.ofString "") && (tl (noSl s)).all p) && ((Txt.split s ⟨#[47]⟩).drop 1).all (fun u => decide (1 ≤ u.length ∧ u.length ≤ 8))) := by
  obtain ⟨hf, hn⟩ := path_parts h
  have ne : ∀ u : Str, u ≠ Str.ofString "" ↔ 1 ≤ u.length := fun u => by
    constructor
    · intro e
      rcases Nat.eq_zero_or_pos u.length with z | z
      · refine absurd (ext_tl ?_) e
        rw [len_tl] at z
        rw [List.length_eq_zero_iff.mp z]
        decide +kernel
      · exact z
    · intro e h
      rw [h] at e
      exact absurd e (by decide +kernel)
  rw [Bool.eq_iff_iff, ← hf, List.all_flatten, List.all_map]
  simp only [Bool.and_eq_true, List.all_eq_true, decide_eq_true_eq, Function.comp]
  generalize (Txt.split s ⟨#[47]⟩).drop 1 = ps at hf hn
  constructor
  · intro a
    refine ⟨⟨?_, fun u hu => (a u hu).2⟩, fun u hu => ⟨(ne u).mp (a u hu).1.1, (a u hu).1.2⟩⟩
    intro e
    cases ps with
    | nil => exact hn rfl
    | cons u r =>
      have hu := (ne u).mp (a u (by simp)).1.1
      rw [e] at hf
      have := congrArg List.length hf
      rw [List.map_cons, List.flatten_cons, List.length_append, ← len_tl] at this
      have z : (tl (Str.ofString "")).length = 0 := by decide +kernel
      omega
  · rintro ⟨⟨_, a⟩, b⟩ u hu
    exact ⟨⟨(ne u).mpr (b u hu).1, (b u hu).2⟩, a u hu⟩
end FR
set_option Elab.async false
set_option linter.all false
set_option maxRecDepth 100000
/-! the last slash of a path; a path without its slashes -/
namespace FR
open PySem PySem.Spec PyProof.Rows L2 TL
theorem rfind_one {x : Str} {c i : Nat} (h : (tl x)[i]? = some c) (h2 : ∀ k, i < k → (tl x)[k]? ≠ some c) : Txt.rfind x ⟨#[c]⟩ = (i : Int) := by
  unfold Txt.rfind
  rcases PySem.StrLaws.last_spec x ⟨#[c]⟩ with ⟨_, hn⟩ | ⟨j, e, hj, hm⟩
  · exact absurd ((PySem.StrLaws.subAt_one x c i).mpr h) (hn i)
  · rw [e]
    have hj' := (PySem.StrLaws.subAt_one x c j).mp hj
    rcases Nat.lt_trichotomy i j with l | l | l
    · exact absurd hj' (h2 j l)
    · rw [l]
    · exact absurd ((PySem.StrLaws.subAt_one x c i).mpr h) (hm i l)
theorem flat_app (ms : List Str) (n : Str) : flat (ms ++ [n]) = flat ms ++ 47 :: tl n := by simp [flat]
theorem rfind_path {ms : List Str} {n : Str} (hn : Nm n) : Txt.rfind (pathOf (ms ++ [n])) (Str.ofString "/") = ((flat ms).length : Int) ∧ cutS (pathOf (ms ++ [n])) none (some ((flat ms).length : Int)) = cat ms := by
  have e : tl (pathOf (ms ++ [n])) = flat ms ++ 47 :: tl n := by rw [pathOf_ne (by simp), tl_cat, flat_app]
  constructor
  · rw [slash]
    refine rfind_one (by rw [e, List.getElem?_append_right (Nat.le_refl _), Nat.sub_self]; rfl) fun k hk h => ?_
    rw [e, List.getElem?_append_right (by omega)] at h
    obtain ⟨j, hj⟩ : ∃ j, k - (flat ms).length = j + 1 := ⟨k - (flat ms).length - 1, by omega⟩
    rw [hj, List.getElem?_cons_succ] at h
    have := hn.lt (List.mem_of_getElem? h)
    omega
  · refine ext_tl ?_
    rw [tl_cutTo, e, tl_cat, List.take_left]
theorem low_of {s : Str} (h0 : tl s ≠ []) (h : ∀ c ∈ tl s, lc c = true) : Txt.isascii s = true ∧ Txt.isalpha s = true ∧ Txt.islower s = true := by
  have ha : Asc s := fun c hc => by have := of_decide_eq_true (h c hc); omega
  refine ⟨isascii_asc ha, ?_, ?_⟩
  · show (decide (s.length > 0) && s.cps.all Unicode.isAlpha) = true
    rw [all_tl, Bool.and_eq_true, decide_eq_true_eq, List.all_eq_true, len_tl]
    exact ⟨List.length_pos_iff.mpr h0, fun c hc => (lc_alpha ⟨c, ha c hc⟩ (h c hc)).1⟩
  · show (s.cps.any Unicode.isLower && !s.cps.any fun c => Unicode.isUpper c || Unicode.isTitle c) = true
    rw [any_tl, any_tl, Bool.and_eq_true, List.any_eq_true, Bool.not_eq_true', List.any_eq_false]
    refine ⟨?_, fun c hc => by have := (lc_alpha ⟨c, ha c hc⟩ (h c hc)).2.2; simpa using this⟩
    obtain ⟨c, hc⟩ := List.exists_mem_of_ne_nil _ h0
    exact ⟨c, hc, (lc_alpha ⟨c, ha c hc⟩ (h c hc)).2.1⟩
theorem path_noSl {ns : List Str} (h : Nms ns) (e : ns ≠ []) : Txt.isascii (noSl (pathOf ns)) = true ∧ Txt.isalpha (noSl (pathOf ns)) = true ∧ Txt.islower (noSl (pathOf ns)) = true := by
  have hm : ∀ c, c ∈ tl (noSl (pathOf ns)) ↔ ∃ s ∈ ns, c ∈ tl s := fun c => by
    rw [tl_noSl, pathOf_ne e, tl_cat, List.mem_filter]
    unfold flat
    rw [List.mem_flatten]
    constructor
    · rintro ⟨⟨l, hl, hc⟩, hne⟩
      obtain ⟨s, hs, rfl⟩ := List.mem_map.mp hl
      rcases List.mem_cons.mp hc with rfl | hc
      · simp at hne
      · exact ⟨s, hs, hc⟩
    · rintro ⟨s, hs, hc⟩
      refine ⟨⟨_, List.mem_map.mpr ⟨s, hs, rfl⟩, List.mem_cons_of_mem _ hc⟩, ?_⟩
      have := (h s hs).lt hc
      simp
      omega
  refine low_of (fun z => ?_) fun c hc => ?_
  · cases ns with
    | nil => exact e rfl
    | cons n r =>
      have h0 := (h n List.mem_cons_self).l0
      rw [len_tl] at h0
      obtain ⟨c, hc⟩ := List.exists_mem_of_length_pos h0
      have := (hm c).mpr ⟨n, List.mem_cons_self, hc⟩
      rw [z] at this
      cases this
  · obtain ⟨s, hs, hc⟩ := (hm c).mp hc
    exact (h s hs).lo c hc
end FR
set_option Elab.async false
set_option linter.all false
set_option maxRecDepth 100000
set_option maxHeartbeats 4000000
/-! bool(x), x == y and x != y of an own class, whatever stands on the right -/
namespace FR
open PySem PySem.Spec PyProof.Rows
theorem call_bool_tru {P : Program} {w : World} {A : Around} {E : Value → Shared → Prop} {s : Shared} {x : Value} {Q : Value → Shared → Prop} (h : wpAny (model P w) A.in1.in1 (truthy x) (fun b s' => Q (.bool b) s') E s) :
    wpAny (model P w) A (call (.type "bool") [x]) Q E s := by
  refine callType_newIn (S := fun A R s => wpAny (model P w) A.in1 (truthy x) (fun b s' => R (.ok (.ret (.bool b))) s') (fun e s' => R (.error e) s') s) PySem.F.called_bool (by decide +kernel) (PySem.F.typeCall_bool_1 x) (PySem.F.newCall_bool_1 x) (fun o => PySem.F.args_object_init_2 o x) PySem.F.entry_bool_new ?_ ?_
  · intro A R s h
    unfold Builtin.«bool.__new__»
    have hsm : someArgs "bool" 0 1 { pos := [x] } = pure [x] := by rfl
    have hty : isType (Value.type "bool") = pure true := by rfl
    have hsub := PySem.F.called_bool.sub
    show wpAny _ _ (do let __do_lift ← isType (Value.type "bool"); _) _ _ _
    rw [hty, pure_bind]
    simp only [hsub, hsm, pure_bind, Bool.not_true, Bool.false_eq_true, if_false]
    refine wpAny_bind (wpAny_mono h (fun b s1 hb => ?_) fun _ _ z => z)
    exact wpAny_pure hb
  · exact wpAny_mono h (fun b s' q => ⟨PySem.typeIs_bool _ _, q⟩) fun _ _ z => z
open L2
open SlX (cmpback run_at)
section
variable {X : Cx} {C g : Addr} {n : Nat} {sp : Sp} {E : XK} {CX : CXT}
/-- bool(x), x of the class at C with an own __bool__ -/
def rBoolI (C : Addr) (sp : Sp) (E : XK) : List V → Hp → VK → Prop := fun xs H Q => ∃ a dx fs, xs = [.ref a] ∧ H a = some (.ins C dx fs) ∧ sp xs H (fun z H' => ∃ b, z = .bl b ∧ Q (.bl b) H') E
theorem call_boolI (hs : PySem.W.findIn X.K (.ref C) "__bool__" = some (some (.ref g))) (hf : PySem.W.isFn X.K (.ref g) = true) (F : FnR X.prog X.w X.K X.mg X.base CX n g sp)
    (hr : Room (n + 2) X.A) (hx : Passes CX X E) : CallR X (.type "bool") (rBoolI C sp E) := by
  intro pins s σ H xs us Q I r h
  obtain ⟨a, dx, fs, rfl, ha, q⟩ := h
  obtain ⟨u, rfl, ru⟩ := r.one
  cases (show u = Value.ref a from ru)
  obtain ⟨od, J⟩ := ins_inst I ha
  obtain ⟨m, hF⟩ := I.fr
  have hr2 : Room n X.A.in1.in1 := (show Room (n + 1) X.A.in1 from Room.in1 hr).in1
  refine call_bool_tru (PySem.W.truthy_K hF I.ok.mod.kin J hs hf (wpAny_mono (wpAny_call (run_at (us := [.ref a]) (ws := [.ref a]) F hr2 I.env0.in1.in1 hx I (.cons rfl .nil) q)) (fun w s' z => ?_) fun _ _ x => x))
  obtain ⟨z', H', I', rz, b, eb, qz⟩ := z
  subst eb
  cases (show w = Value.bool b from rz)
  exact ⟨.bl b, H', I', rfl, qz⟩
/-- not x, as a value -/
def rNotR (r : V → Hp → (Bool → Hp → Prop) → Prop) : V → Hp → VK → Prop := fun x H Q => r x H fun b H' => Q (.bl (!b)) H'
theorem un_not {r : V → Hp → (Bool → Hp → Prop) → Prop} (h : TruR X r) : UnR X (unaryOp .Not) (rNotR r) := by
  intro pins s σ H x v Q I rx q
  unfold unaryOp
  refine wpAny_holding ?_
  show wpAny _ _ (do let b ← truthy v; pure (Value.bool !b)) _ _ _
  refine wpAny_bind (wpAny_mono (h pins s σ H x v _ I rx q) (fun b s' z => ?_) fun _ _ z => z)
  obtain ⟨H', I', q'⟩ := z
  exact wpAny_pure ⟨.bl (!b), H', I', rfl, q'⟩
/-- what stands on the right of a comparison: one of the class, a text, a whole number -/
inductive Right (K : PySem.W.Frag) (H : Hp) (C : Addr) : V → Prop
  | own {b dy : Addr} {gs : List (Str × V)} : H b = some (.ins C dy gs) → Right K H C (.ref b)
  | str (t : Str) : PySem.W.notFirst K C (.type "str") = true → Right K H C (.str t)
  | int (i : Int) : PySem.W.notFirst K C (.type "int") = true → Right K H C (.int i)
theorem right_looks {pins : List (Addr × Obj)} {σ : L2.St} {H : Hp} {s : Shared} {y : V} {u : Value} (I : Inv X pins σ H s) (r : RelV y u) (h : Right X.K H C y) : ∃ tb, PySem.W.Looks (model X.prog X.w) s.heap (typeOf u) tb ∧ PySem.W.notFirst X.K C tb = true := by
  cases h with
  | own e =>
    cases (show u = _ from r)
    obtain ⟨od, J⟩ := ins_inst I e
    exact ⟨_, J.type, by unfold PySem.W.notFirst; simp⟩
  | str t e =>
    obtain ⟨tk, rfl⟩ := (show ∃ tk, u = Value.str t tk from r)
    exact ⟨_, fun A Q E s' _ q => by show wpAny _ _ (pure (Value.type "str")) _ _ _; exact wpAny_pure q, e⟩
  | int i e =>
    obtain ⟨tk, rfl⟩ := (show ∃ tk, u = Value.int i tk from r)
    exact ⟨_, fun A Q E s' _ q => by show wpAny _ _ (pure (Value.type "int")) _ _ _; exact wpAny_pure q, e⟩
def rCmpA (K : PySem.W.Frag) (C : Addr) (sp : Sp) (E : XK) : R2 := fun x y H Q => ∃ a dx fs, x = .ref a ∧ H a = some (.ins C dx fs) ∧ Right K H C y ∧ sp [x, y] H Q E
theorem op_cmpA {op : CmpOp} (hop : ∀ a b, compareOp op a b = richCompare op a b) (hs : PySem.W.findIn X.K (.ref C) (cmpInfo op).2.1 = some (some (.ref g))) (hf : PySem.W.isFn X.K (.ref g) = true) (F : FnR X.prog X.w X.K X.mg X.base CX n g sp)
    (hr : Room n X.A) (hx : Passes CX X E) : OpR X (compareOp op) (rCmpA X.K C sp E) := by
  intro pins s σ H x y v u Q I rx ry h
  obtain ⟨a, dx, fs, rfl, ha, hy, q⟩ := h
  cases (show v = Value.ref a from rx)
  obtain ⟨od, J⟩ := ins_inst I ha
  obtain ⟨tb, hl, hn⟩ := right_looks I ry hy
  obtain ⟨m, hF⟩ := I.fr
  rw [hop]
  refine PySem.W.cmp_K (op := op) (tb := tb) hr.units0 hF I.ok.mod.kin J hl hn hs hf ?_
  refine wpAny_mono (wpAny_call (run_fnR (us := [.ref a, u]) (vs := [.ref a, y]) F hr hx I (.cons rfl (.cons ry .nil)) q)) (fun w s' z => ?_) fun _ _ x => x
  obtain ⟨z', H', I', rz, qz⟩ := z
  exact cmpback rz ⟨z', H', I', rz, qz⟩
def rNeA (K : PySem.W.Frag) (C : Addr) (sp : Sp) (E : XK) : R2 := fun x y H Q => ∃ a dx fs, x = .ref a ∧ H a = some (.ins C dx fs) ∧ Right K H C y ∧ sp [x, y] H (fun z H' => ∃ v, z = .bl v ∧ Q (.bl (!v)) H') E
theorem op_neA (hm : PySem.W.mroIn X.K C (.type "object") = some true) (hne : PySem.W.findIn X.K (.ref C) "__ne__" = some (some (.builtin "object.__ne__"))) (hs : PySem.W.findIn X.K (.ref C) "__eq__" = some (some (.ref g))) (hf : PySem.W.isFn X.K (.ref g) = true)
    (F : FnR X.prog X.w X.K X.mg X.base CX n g sp) (hr : Room (n + 1) X.A) (hx : Passes CX X E) : OpR X (compareOp .NotEq) (rNeA X.K C sp E) := by
  intro pins s σ H x y v u Q I rx ry h
  obtain ⟨a, dx, fs, rfl, ha, hy, q⟩ := h
  cases (show v = Value.ref a from rx)
  obtain ⟨od, J⟩ := ins_inst I ha
  obtain ⟨tb, hl, hn⟩ := right_looks I ry hy
  refine rc_ne_own (tb := tb) hr.units0 hr.in1.units0 I.kIn J hl hn hm hne hs hf ?_
  refine wpAny_mono (wpAny_call (run_at (us := [.ref a, u]) (ws := [.ref a, y]) F hr.in1 I.env0.in1 hx I (.cons rfl (.cons ry .nil)) q)) (fun w s' z => ?_) fun _ _ x => x
  obtain ⟨z', H', I', rz, b', eb, qz⟩ := z
  subst eb
  cases (show w = Value.bool b' from rz)
  exact ⟨b', rfl, .bl (!b'), H', I', rfl, qz⟩
end
/-- isinstance(x, C): x one of the class, or of another kind -/
def rIsA (K : PySem.W.Frag) (C : Addr) : List V → Hp → VK → Prop := fun xs H Q => (∃ a dx fs, xs = [.ref a, .ref C] ∧ H a = some (.ins C dx fs) ∧ Q (.bl true) H) ∨ rIsi K xs H Q
theorem call_isA {X : Cx} {C : Addr} (h : C8.InsC X.K C) : CallR X (.builtin "isinstance") (rIsA X.K C) := by
  intro pins s σ H xs us Q I r q
  rcases q with q | q
  · exact C8.call_isC h pins s σ H xs us Q I r q
  · exact call_isi pins s σ H xs us Q I r q
theorem op_in_seqK {X : Cx} {K : PySem.W.Frag} (h : X.K = K) : OpR X (compareOp .In) (rIn K false) := h ▸ op_in_seq
theorem kit_ofT {K : PySem.W.Frag} {n : String} {S : Addr} {b : Bool} (h2 : PySem.W.isClsIn K S = true) (h3 : PySem.W.typeIn K (.ref S) = some (.type "type")) (h4 : PySem.W.subIn K (.type n) (.ref S) = some b) : PySem.W.kitOne K (.type n) (.ref S) = some b := by
  have e2 : ((PySem.W.clsIn K S).isSome && PySem.W.typeIn K (.ref S) == some (.type "type")) = true := by
    rw [show (PySem.W.clsIn K S).isSome = true from h2, h3] <;> rfl
  unfold PySem.W.kitOne
  rw [if_neg (show ¬ (Value.type n == Value.ref S) = true by simp)]
  show (if ((PySem.W.clsIn K S).isSome && PySem.W.typeIn K (.ref S) == some (.type "type")) = true then PySem.W.subIn K (.type n) (.ref S) else none) = some b
  rw [if_pos e2]
  exact h4
end FR
set_option Elab.async false
set_option linter.all false
set_option maxRecDepth 100000
/-! cls(..) where cls is a local; classmethods -/
namespace FR
open PySem PySem.Spec PyProof.Rows L2 TL
section
variable {X : Cx} {CX : CXT} {k : Nat} {f C : Addr} {fd : FuncData} {ps : List Str} {sp : Sp} {dvs : List V} {ds : List Value} {E : XK} {x : Str} {p pos : Pos} {i : Nat}
def tMakeL (i : Nat) (C : Addr) (sp : Sp) (dvs : List V) (E : XK) (t : TA) : TE := fun σ H Q => σ[i]? = some (some (.ref C)) ∧ tMake C sp dvs E t σ H Q
theorem pe_makeL0 (hv : PE X (.Name x p) (tVar i)) (M : Mk X.K C f) (F : FnOk X.prog X.w X.K X.mg X.base CX k f fd ps sp) (hr : Room (k + 1) X.A) (hb : Binds X.K fd ps ds) (hd : Vals dvs ds) (hx : Passes CX X E) :
    PE X (.Call (.Name x p) [] [] pos) (tMakeL i C sp dvs E tNil) := by
  refine ⟨fun pins s σ H Q I h => ?_⟩
  obtain ⟨h1, h2⟩ := h
  refine wpAny_Call_Name_kw (thn (hv.run pins s σ H (fun v H' => v = .ref C ∧ tMake C sp dvs E tNil σ H' Q) I ⟨_, h1, rfl, h2⟩) fun u s1 hh => ?_)
  obtain ⟨v, H1, I1, r1, rfl, q⟩ := hh
  cases (show u = Value.ref C from r1)
  refine PySem.W.callWith_K0 I1.kIn M.kp ?_
  exact run_make (us := []) (vs := []) M F hr hb hd hx I1 .nil q
theorem pe_makeL {e : Expr} {es : List Expr} {t : TA} (hv : PE X (.Name x p) (tVar i)) (M : Mk X.K C f) (F : FnOk X.prog X.w X.K X.mg X.base CX k f fd ps sp) (hr : Room (k + 1) X.A) (hb : Binds X.K fd ps ds) (hd : Vals dvs ds) (hx : Passes CX X E) (ha : PA X (e :: es) t)
    (he : starEach (e :: es) X.env = (false, eval e X.env) :: starEach es X.env := by rfl) (hpl : (backTo pos (starEach es X.env)).any (·.1) = false := by rfl) :
    PE X (.Call (.Name x p) (e :: es) [] pos) (tMakeL i C sp dvs E t) := by
  refine ⟨fun pins s σ H Q I h => ?_⟩
  obtain ⟨h1, h2⟩ := h
  refine wpAny_Call_Name_kw (thn (hv.run pins s σ H (fun v H' => v = .ref C ∧ tMake C sp dvs E t σ H' Q) I ⟨_, h1, rfl, h2⟩) fun u s1 hh => ?_)
  obtain ⟨v, H1, I1, r1, rfl, q⟩ := hh
  cases (show u = Value.ref C from r1)
  refine PySem.W.callWith_K (h₀ := X.base) I1.ok.mod.kin M.kp (thn (ha.run pos pins s1 σ H1 _ I1 q) fun us s2 hz => ?_) he hpl
  obtain ⟨vs, H2, I2, r2, q2⟩ := hz
  exact ⟨I2.kIn, run_make (us := us) (vs := vs) M F hr hb hd hx I2 r2 q2⟩
end
end FR
set_option Elab.async false
set_option linter.all false
set_option maxRecDepth 100000
/-! x in t, t a tuple of data, x any datum -/
namespace FR
open PySem PySem.Spec PyProof.Rows L2 TL PySem.SeqAt
def rInTD (K : PySem.W.Frag) : R2 := fun x y H Q => ∃ (p : Addr) (d : PyData) (ds : List PyData), y = .ref p ∧ Dp K H x d ∧ Dp K H y (.tuple ds) ∧ SeqAt.shaped d = true ∧ PyData.canLayAll0 ds = true ∧ Q (.bl (ds.any fun z => z.eqv d)) H
theorem op_inTD {X : Cx} (hu : X.A.units + 65 < cLine) : OpR X (compareOp .In) (rInTD X.K) := by
  intro pins s σ H x y v u Q I rx ry h
  obtain ⟨p, d, ds, rfl, hd, hy, s1, c2, q⟩ := h
  cases (show u = Value.ref p from ry)
  obtain ⟨as, r1⟩ := Dp.reads I _ _ _ hd rx
  obtain ⟨bs, r2⟩ := Dp.reads I _ _ _ hy ry
  unfold SeqAt.shaped at s1
  rw [Bool.and_eq_true, decide_eq_true_eq] at s1
  cases r2 with
  | tuple e hc hdt hr =>
    refine in_tupleAt (fun z => (readOf s.heap z).eqv d) ⟨_, e, hc, _, hdt⟩ (items_eqAt hr r1 c2 s1.1 (by have := Nat.min_le_right (PyData.depthAll ds) d.depth; omega)) ⟨.bl (ds.any fun z => z.eqv d), H, I, ?_, q⟩
    show Value.bool _ = Value.bool _
    rw [any_by_data hr c2]
end FR
set_option Elab.async false
set_option linter.all false
set_option maxRecDepth 100000
/-! keyword calls of raising defs -/
namespace FR
open PySem PySem.Spec PyProof.Rows L2 TL
section
variable {X : Cx} {CX : CXT} {k n : Nat} {f : Addr} {fd : FuncData} {ps ks : List Str} {sp : Sp} {E : L2.St → XK} {x : Str} {p pos : Pos} {e : Expr} {es : List Expr} {kws : List Keyword} {t tk : TA} {g : List Value → List Value → List Value} {gV : List V → List V → List V}
theorem run_fnNS {pins : List (Addr × Obj)} {σ : L2.St} {H : Hp} {s : Shared} {Q : VK} {us ws : List Value} {vs zs : List V} (F : FnOk X.prog X.w X.K X.mg X.base CX k f fd ps sp) (hr : Room k X.A) (hb : KBn X.K fd ps n ks g gV) (hx : PassesAt CX X σ (E σ))
    (I : Inv X pins σ H s) (r : Vals vs us) (rz : Vals zs ws) (l1 : vs.length = n) (l2 : zs.length = ks.length) (h : sp (gV vs zs) H Q (E σ)) : wpAny (model X.prog X.w) X.A (call (.ref f) us (ks.zip ws)) (EP X pins σ Q) X.xe s := by
  have r2 := hb.rel r rz
  refine wpAny_call (codeAny_mono (F.run X.A X.stack s H ⟨us, ks.zip ws⟩ (g us ws) (gV vs zs) Q (E σ) hr I.env0 (hb.to s us ws I.kIn (r.length.symm.trans l1) (rz.length.symm.trans l2)) r2 h) fun r s' hq => ?_)
  cases r with
  | error e => exact hx pins H s e s' I hq
  | ok fl =>
    cases fl with
    | ret u => exact I.after hq
    | next => exact False.elim hq
    | brk => exact False.elim hq
    | cont => exact False.elim hq
def tCallNS (n m : Nat) (sp : Sp) (gV : List V → List V → List V) (E : L2.St → XK) (t tk : TA) : TE := fun σ H Q => t σ H fun vs H1 => tk σ H1 fun zs H2 => vs.length = n ∧ zs.length = m ∧ sp (gV vs zs) H2 Q (E σ)
theorem pe_callN0S (F : FnOk X.prog X.w X.K X.mg X.base CX k f fd ps sp) (hr : Room k X.A) (hg : Gl X x) (hm : X.mg x = some (.ref f)) (hk : PySem.W.keepIn X.K (.ref f) = true) (hb : KBn X.K fd ps 0 ks g gV) (hx : ∀ σ, PassesAt CX X σ (E σ)) (hkw : PK X kws tk)
    (hall : (backToKw pos (keywordEach kws X.env)).all (·.1.isSome) = true := by rfl) (hks : (backToKw pos (keywordEach kws X.env)).filterMap (·.1) = ks := by rfl) (hdb : (x == ("__debug__" : Str)) = false := by decide)
    (hpl : ((backTo pos (starEach [] X.env)).any (·.1) || (backToKw pos (keywordEach kws X.env)).any (·.1.isNone)) = false := by rfl) : PE X (.Call (.Name x p) [] kws pos) (tCallNS 0 ks.length sp gV E tNil tk) := ⟨fun pins s σ H Q I h => by
  refine wpAny_Call_Name_kw (ld_glob I hg hm (PySem.W.callWith_KW0 (h₀ := X.base) I.ok.mod.kin hk hall ?_ hpl) hdb)
  refine thn (hkw.run pos pins s σ H _ I h) fun ws s2 hz => ?_
  obtain ⟨zs, H2, I2, rz, l1, l2, q2⟩ := hz
  refine ⟨I2.kIn, ?_⟩
  rw [hks]
  exact run_fnNS (us := []) (vs := []) F hr hb (hx σ) I2 .nil rz rfl l2 q2⟩
end
end FR
set_option Elab.async false
set_option linter.all false
set_option maxRecDepth 100000
/-! t + u and t[lo:hi] of tuples, whichever object stands for them -/
namespace FR
open PySem PySem.Spec PyProof.Rows L2 TL
section
variable {X : Cx}
def rCatK : R2 := fun x y H Q => ∃ a b xs ys, x = .ref a ∧ y = .ref b ∧ H a = some (.tup xs) ∧ H b = some (.tup ys) ∧ xs.length + ys.length ≤ sizeLine ∧ ∀ p H', Keep [] H H' → H' p = some (.tup (xs ++ ys)) → Q (.ref p) H'
theorem op_catK : OpR X (binaryOp .Add) rCatK := fun pins s σ H x y v u Q I rx ry h => by
  obtain ⟨a, b, xs, ys, rfl, rfl, ha, hb, hz, q⟩ := h
  refine op_catA pins s σ H _ _ v u Q I rx ry ⟨a, b, xs, ys, rfl, rfl, .inl (.inl ha), .inl (.inl hb), hz, fun e => q b H Keep.refl (by rw [e]; exact hb), fun _ e => q a H Keep.refl (by rw [e, List.append_nil]; exact ha), fun _ _ p np => q p _ (keep_new np) upd_same⟩
def rSlK : V → Option Int → Option Int → Hp → VK → Prop := fun x lo hi H Q => ∃ a xs, x = .ref a ∧ H a = some (.tup xs) ∧ ∀ p H', Keep [] H H' → H' p = some (.tup (cutV xs lo hi)) → Q (.ref p) H'
theorem sl_tupK : SlR X rSlK := fun pins s σ H x v vl vu lo hi sl Q I rx hs pl pu h => by
  obtain ⟨a, xs, rfl, ha, q⟩ := h
  refine sl_tupA pins s σ H _ v vl vu lo hi sl Q I rx hs pl pu ⟨a, xs, rfl, .inl (.inl ha), fun e => q a H Keep.refl ?_, fun _ p np => q p _ (keep_new np) upd_same⟩
  rw [ha]
  unfold cutV
  rw [e.1, e.2, List.drop_zero, Nat.sub_zero, List.take_length]
end
theorem cutV_mem {xs : List V} {lo hi : Option Int} {x : V} (h : x ∈ cutV xs lo hi) : x ∈ xs := List.mem_of_mem_drop (List.mem_of_mem_take h)
end FR
set_option Elab.async false
set_option linter.all false
set_option maxRecDepth 100000
/-! blocks of a def that are shown by themselves -/
namespace FR
open PySem PySem.Spec PyProof.Rows L2 TL
/-- a block, by what it asks -/
theorem pss_b {X : Cx} {b : List Stmt} {t R : TS} (h : PSs X b t) (k : ∀ D σ H, R D σ H → t D σ H) : PSs X b R := ⟨fun pins s σ H D I q => h.run pins s σ H D I (k D σ H q)⟩
def bdF : Stmt → List Stmt
  | .For _ _ b _ _ => b
  | .While _ b _ _ => b
  | .If _ b _ _ => b
  | .Try b _ _ _ _ => b
  | _ => []
def bdE : Stmt → List Stmt
  | .For _ _ _ b _ => b
  | .While _ _ b _ => b
  | .If _ _ b _ => b
  | .Try _ _ b _ _ => b
  | _ => []
def nth (l : List Stmt) (i : Nat) : Stmt := l.getD i (.Pass ⟨0, 0, 0, 0⟩)
/-- repr, its text kept closed -/
theorem rep_to {K : PySem.W.Frag} {xs : List V} {H : Hp} {Q : VK} {p : Addr} {d : PyData} {tx : Str} (e : d.shown = tx) (h : Dp K H (.ref p) d ∧ d.showable = true ∧ d.hasDict = false ∧ d.depth ≤ 50 ∧ d.shown.length ≤ sizeLine) (hx : xs = [.ref p]) (q : Q (.str tx) H) : rReprD K xs H Q :=
  ⟨p, d, hx, h.1, h.2.1, h.2.2.1, h.2.2.2.1, h.2.2.2.2, by rw [e]; exact q⟩
theorem rep_ex {K : PySem.W.Frag} {H : Hp} {p : Addr} {d : PyData} (_ : Dp K H (.ref p) d ∧ d.showable = true ∧ d.hasDict = false ∧ d.depth ≤ 50 ∧ d.shown.length ≤ sizeLine) : ∃ t, d.shown = t := ⟨_, rfl⟩
theorem same_txt {t : Str} {A B : Prop} (b : B) : if (!decide (V.str t = V.str t)) = true then A else B := by
  rw [decide_eq_true rfl]
  exact b
end FR
set_option Elab.async false
set_option linter.all false
set_option maxRecDepth 100000
set_option maxHeartbeats 4000000
/-! set(x) of any text of seven bits; its len -/
namespace FR
open PySem PySem.Spec PyProof.Rows PySem.Froz
/-- the signs that were met, each once -/
def meet (l : List Str) (cs : List Nat) : List Str := cs.foldl (fun l c => if sing c ∈ l then l else sing c :: l) l
section
variable {P : Program} {w : World} {A : Around} {E : Value → Shared → Prop}
/-- a text that is there already -/
theorem add_there {s : Shared} {a : Addr} {T : String} {D : SD} {l : List Str} {k : Str} {u : Tok} {Q : Bool → Shared → Prop} (at_ : s.heap.get? a = some (sObj T D)) (F : TxOk P w D l) (m : k ∈ l) (room : l.length < scanBound) (q : Q false s) :
    wpAny (model P w) A (setAddHashed a (.str k u) (hashStr w k)) Q E s := by
  obtain ⟨es, ep, t⟩ := D
  have data : (sObj T (es, ep, t)).data = .set es ep t := rfl
  have small : es.size < scanBound := by
    have : es.size = l.length := F.sz
    omega
  have key : (strKind P w).is k (.str k u) = true := is_str k u
  obtain ⟨j, hj⟩ : ∃ j, List.findIdx? (fun e => (strKind P w).is k e.2) es.toList = some j := by
    cases z : List.findIdx? (fun e => (strKind P w).is k e.2) es.toList with
    | some j => exact ⟨j, rfl⟩
    | none =>
      obtain ⟨e, he, y⟩ := (F.mem k).mp m
      have := List.findIdx?_eq_none_iff.mp z e he
      rw [y] at this
      cases this
  unfold setAddHashed setAddHashedIn
  refine wpAny_holding (wpAny_bind (wpAny_setState_of at_ data F.fit ?_))
  dsimp only
  rw [byScan_of rfl small F.el, if_pos rfl]
  unfold setAddByScan
  refine wpAny_bind (wpAny_bind (wpAny_rule (wpAny_bind (wpAny_setScan_of (knd := strKind P w) (k := k) key at_ data F.fit F.el ?_))))
  rw [hj]
  exact wpAny_pure (wpAny_pure q)
/-- the rest of a text's signs into the set -/
theorem upd_signs {R : Result → Shared → Prop} {a it : Addr} (ne : a ≠ it) {T : String} {x : Str} {u : Tok} (hh : A.handled = none) : ∀ (cs : List Nat) (i : Nat) (D : SD) (l : List Str) (s : Shared), x.cps.toList.drop i = cs →
    s.heap.get? a = some (sObj T D) → s.heap.get? it = some (itObj x u i) → TxOk P w D l → l.length + cs.length < scanBound →
    (∀ (D' : SD) (h' : Heap) (tk : Nat), TxOk P w D' (meet l cs) → h'.get? a = some (sObj T D') → (∀ b o, b ≠ a → b ≠ it → s.heap.get? b = some o → h'.get? b = some o) → R (.ok (.ret .none)) { s with heap := h', toks := tk }) →
    codeAny (model P w) A (.builtin "set.update.loop" ⟨[.ref a, .ref it], []⟩) R s
  | [], i, D, l, s, dr, ha, hit, F, room, q => by
    refine codeAny_builtin PyProof.Rows.F.entry_set_update_loop ?_
    rw [Around.under_plainId PyProof.Rows.F.plain_set_update_loop _]
    show wpAny _ A.in1 (pyNext (.ref it) >>= fun _ => _) _ _ s
    refine wpAny_bind (end_x (u := u) (by exact hh) hit (at_end dr) ?_)
    show wpAny _ A.in1 (ret Value.none) _ _ _
    refine wpAny_pure (q D _ _ F (Heap.get?_push_of_some _ (Heap.get?_push_of_some _ (PySem.Heap.get?_update_of_ne _ (Ne.symm ne) ha))) fun b o _ n2 e => ?_)
    exact Heap.get?_push_of_some _ (Heap.get?_push_of_some _ (PySem.Heap.get?_update_of_ne _ (Ne.symm n2) e))
  | c :: r, i, D, l, s, dr, ha, hit, F, room, q => by
    obtain ⟨hx, dr2⟩ := at_of dr
    have room2 : l.length + (r.length + 1) < scanBound := room
    have move : ∀ b o, b ≠ it → s.heap.get? b = some o → (s.heap.update it (fun _ => itObj x u (i + 1))).get? b = some o := fun b o n e => PySem.Heap.get?_update_of_ne _ (Ne.symm n) e
    refine codeAny_builtin PyProof.Rows.F.entry_set_update_loop ?_
    rw [Around.under_plainId PyProof.Rows.F.plain_set_update_loop _]
    show wpAny _ A.in1 (pyNext (.ref it) >>= fun _ => _) _ _ s
    refine wpAny_bind (next_x (u := u) hit hx ?_)
    show wpAny _ A.in1 (holding [Value.str (sing c) s.toks] (setAdd a (.str (sing c) s.toks)) >>= fun _ => _) _ _ _
    refine wpAny_bind (wpAny_holding ?_)
    unfold setAdd
    refine wpAny_holding (wpAny_bind ((strKind P w).pyHash (k := sing c) (is_str _ _) ?_))
    have ha1 := move a _ ne ha
    have hit1 : (s.heap.update it (fun _ => itObj x u (i + 1))).get? it = some (itObj x u (i + 1)) := get_upd _ hit rfl
    by_cases m : sing c ∈ l
    · refine add_there (s := { s with heap := s.heap.update it (fun _ => itObj x u (i + 1)), toks := s.toks + 1 + 1 }) ha1 F m (by omega) ?_
      refine wpAny_pure ⟨plainId_quiet PyProof.Rows.F.plain_set_update_loop _, upd_signs ne hh r (i + 1) D l _ dr2 ha1 hit1 F (by omega) fun D' h' tk F' a' k' => ?_⟩
      exact q D' h' tk (by unfold meet at F' ⊢; rw [List.foldl_cons, if_pos m]; exact F') a' fun b o n1 n2 e => k' b o n1 n2 (move b o n2 e)
    · refine add_x (l := l) (D := D) (s := { s with heap := s.heap.update it (fun _ => itObj x u (i + 1)), toks := s.toks + 1 + 1 }) ha1 F m (by omega) ?_
      have ha2 : ((s.heap.update it (fun _ => itObj x u (i + 1))).update a (fun _ => sObj T (addTx (hashStr w (sing c)) (.str (sing c) s.toks) D))).get? a = some (sObj T (addTx (hashStr w (sing c)) (.str (sing c) s.toks) D)) := get_upd _ ha1 rfl
      have hit2 : ((s.heap.update it (fun _ => itObj x u (i + 1))).update a (fun _ => sObj T (addTx (hashStr w (sing c)) (.str (sing c) s.toks) D))).get? it = some (itObj x u (i + 1)) := PySem.Heap.get?_update_of_ne _ ne hit1
      refine wpAny_pure ⟨plainId_quiet PyProof.Rows.F.plain_set_update_loop _, upd_signs ne hh r (i + 1) _ (sing c :: l) _ dr2 ha2 hit2 (add_ok s.toks F) (by show l.length + 1 + r.length < scanBound; omega) fun D' h' tk F' a' k' => ?_⟩
      exact q D' h' tk (by unfold meet at F' ⊢; rw [List.foldl_cons, if_neg m]; exact F') a' fun b o n1 n2 e => k' b o n1 n2 (PySem.Heap.get?_update_of_ne _ (Ne.symm n1) (move b o n2 e))
theorem call_set_any {s : Shared} {x : Str} {u : Tok} {Q : Value → Shared → Prop} (hh : A.handled = none) (ha : x.cps.all (· < 128) = true) (hb : x.cps.toList.length < scanBound)
    (h : ∀ (h' : Heap) (tk : Nat) (D : SD), h'.get? s.heap.objs.size = some (sObj "set" D) → TxOk P w D (meet [] x.cps.toList) → (∀ b o, b < s.heap.objs.size → s.heap.get? b = some o → h'.get? b = some o) →
      Q (.ref s.heap.objs.size) { s with heap := h', toks := tk }) :
    wpAny (model P w) A (call (.type "set") [.str x u]) Q E s := by
  obtain ⟨c, tl, hmro⟩ := PySem.F.called_set.mro
  have hmade := PySem.F.called_set.made
  have hsub := PySem.F.called_set.sub
  refine wpAny_call (codeAny_of_tree ?_)
  show wpAny _ _ (callAny (.type "set") _) _ _ _
  refine wpAny_pure ⟨Code.quiet_builtin _ (by decide +kernel), codeAny_builtin PySem.F.entry_type_call ?_⟩
  rw [Around.under_plain (weight_type_call_type "set" [.str x u] []) rfl]
  have h1 := PySem.F.called_set.notType
  have h2 := PySem.F.called_set.canCreate
  have hct := PySem.F.typeCall_set_1 (.str x u)
  repeat (any_goals (first | assumption | wp_step))
  let S0 : Bool → Obj := fun led => { cls := .type "set", dict := none, data := .set #[] 0 (.fresh 0 0 led) }
  refine codeAny_mono (code_set_new_1 (.str x u) (E := E) (Q₁ := fun obj s1 => ∃ led : Bool, obj = .ref s.heap.objs.size ∧ s1 = { s with heap := s.heap.push (S0 led) }) fun led => ⟨led, rfl, rfl⟩) fun r s1 hr => ?_
  match r, hr with
  | .error e, hr => exact hr
  | .ok (.ret obj), hr =>
    obtain ⟨led, rfl, rfl⟩ := hr
    have hS : (s.heap.push (S0 led)).get? s.heap.objs.size = some (S0 led) := Heap.get?_push_size _ rfl
    have hT : Shared.TypeIs { s with heap := s.heap.push (S0 led) } (.ref s.heap.objs.size) "set" := ⟨_, hS, rfl⟩
    have hli := PySem.F.called_set.init.lookup
    have hbi := PySem.F.called_set.init.bind (.ref s.heap.objs.size)
    repeat (any_goals (first | assumption | wp_step))
    refine codeAny_mono (codeAny_call_builtin (R := wants (fun r s2 => r = .none ∧ ∃ (h' : Heap) (tk : Nat) (D : SD), s2 = { s with heap := h', toks := tk } ∧ h'.get? s.heap.objs.size = some (sObj "set" D) ∧ TxOk P w D (meet [] x.cps.toList) ∧
      (∀ b o, b < s.heap.objs.size → s.heap.get? b = some o → h'.get? b = some o)) E) PySem.F.called_set.init.plain PySem.F.entry_set_init (check_set_init_1 hT ?_)) fun r2 s2 hr2 => ?_
    · have hs1 := PySem.F.sub_str_set
      have hs2 := PySem.F.sub_str_frozenset
      have hne : (Value.type "str" == Value.type "dict") = false := by decide
      unfold Builtin.«set.__init__» noKeywords Builtin.Frozenset.updateFrom
      generalize hPI : pyIter = PI
      wp_walk
      subst hPI
      refine wpAny_pyIter_ascii ha ?_
      refine wpAny_bind (wpAny_runValue ?_)
      have hsz : (s.heap.push (S0 led)).objs.size = s.heap.objs.size + 1 := Heap.size_push ..
      have hne2 : s.heap.objs.size ≠ (s.heap.push (S0 led)).objs.size := by omega
      have F0 : TxOk P w (#[], 0, .fresh 0 0 led) [] := TxOk.nil (by rfl)
      refine upd_signs (T := "set") (x := x) (u := u) (P := P) (w := w) hne2 (by simp [hh]) x.cps.toList 0 (#[], 0, .fresh 0 0 led) [] _ rfl (Heap.get?_push_of_some _ hS) (Heap.get?_push_size _ rfl) F0 (by simpa using hb) fun D' h' tk F' a' k' => ?_
      show wpAny _ _ (pure ()) _ _ _
      refine wpAny_pure ?_
      show wpAny _ _ (ret Value.none) _ _ _
      refine wpAny_pure ⟨rfl, _, _, D', rfl, a', F', fun b o hb2 e => ?_⟩
      have n1 : b ≠ s.heap.objs.size := Nat.ne_of_lt hb2
      have n2 : b ≠ (s.heap.push (S0 led)).objs.size := by omega
      exact k' b o n1 n2 (Heap.get?_push_of_some _ (Heap.get?_push_of_some _ e))
    · match r2, hr2 with
      | .error e, hr2 => exact hr2
      | .ok (.ret r), hr2 =>
        obtain ⟨rfl, h', tk, D, rfl, g1, g2, g4⟩ := hr2
        repeat (any_goals (first | assumption | wp_step))
        exact h _ _ _ g1 g2 g4
      | .ok .next, hr2 => exact hr2.elim
      | .ok .brk, hr2 => exact hr2.elim
      | .ok .cont, hr2 => exact hr2.elim
  | .ok .next, hr => exact hr.elim
  | .ok .brk, hr => exact hr.elim
  | .ok .cont, hr => exact hr.elim
end
section
open L2
theorem meet_len : ∀ (cs : List Nat) (l : List Str), (meet l cs).length ≤ l.length + cs.length
  | [], l => Nat.le_refl _
  | c :: r, l => by
    unfold meet
    rw [List.foldl_cons]
    have h1 := meet_len r l
    have h2 := meet_len r (sing c :: l)
    unfold meet at h1 h2
    split
    · simp only [List.length_cons] at h1 ⊢; omega
    · simp only [List.length_cons] at h2 ⊢; omega
def tLenSetA (ta : TE) : TE := fun σ H Q => ta σ H fun x H1 => ∃ t : Str, x = .str t ∧ t.cps.all (· < 128) = true ∧ t.cps.toList.length ≤ 4000 ∧ Q (.int ((meet [] t.cps.toList).length : Nat)) H1
/-- len(set(e)), e a text -/
theorem pe_lenSetA {X : Cx} {a : Expr} {ta : TE} {p p2 q pos : Pos} (hg : Gl X "len") (hm : X.mg "len" = none) (hg2 : Gl X "set") (hm2 : X.mg "set" = none) (ha : PE X a ta) (hc : X.calm = true := by rfl)
    (na : starEach [a] X.env = (false, eval a X.env) :: starEach [] X.env := by rfl) : PE X (.Call (.Name "len" p) [.Call (.Name "set" p2) [a] [] q] [] pos) (tLenSetA ta) := by
  refine ⟨fun pins s σ H Q I h => ?_⟩
  refine Call_ (ld_blt I hg hm boot_len ?_)
  refine PyProof.Rows.callWith_builtin1 (PyProof.Rows.args_cons ?_ rfl) rfl rfl
  refine Call_ (ld_blt I hg2 hm2 (show bootBuiltins ("set" : Str) = some (.type "set") by decide +kernel) ?_)
  refine PyProof.Rows.callWith_type1 (PyProof.Rows.args_cons (thn (ha.run pins s σ H _ I h) fun v s1 ⟨x, H1, I1, r1, q1⟩ => PyProof.Rows.args_nil ?_) na) na rfl
  obtain ⟨t, rfl, h1, h3, q1⟩ := q1
  obtain ⟨tk0, rfl⟩ := r1
  refine call_set_any (I1.ok.hd hc) h1 (by unfold scanBound; omega) fun h' tk D g1 F hk => ?_
  refine PyProof.Rows.args_nil ?_
  have I2 : Inv X pins σ H1 { s1 with heap := h', toks := tk } := I1.kept fun b o e => hk b o (Heap.lt_size e) e
  have hn : D.1.size = (meet [] t.cps.toList).length := F.sz
  have hl := meet_len t.cps.toList []
  simp only [List.length_nil, Nat.zero_add] at hl
  exact call_len_set (es := D.1) (ep := D.2.1) (t := D.2.2) g1 ⟨rfl, rfl, rfl⟩ rfl F.fit (by rw [hn]; omega) ⟨.int (meet [] t.cps.toList).length, H1, I2.tok _, ⟨_, by rw [hn]⟩, q1⟩
end
end FR
set_option Elab.async false
set_option linter.all false
set_option maxRecDepth 100000
set_option maxHeartbeats 2000000
/-! a lambda handed to a def, where no repr is under way -/
namespace FR
open PySem PySem.Spec PyProof.Rows L2 TL LamX
section
variable {X : Cx} {σ : L2.St} {H : Hp} {s : Shared} {params : Arguments} {body : Expr} {scope : Scope} {f c' : Addr} {pm ctv : Value} {pins : List (Addr × Obj)}
/-- the lambda's own run, at the around Y -/
theorem lam_run {Y : Around} {outer : List Env} {s1 : Shared} {HZ : Hp} {E : XK} {Q : VK} {tb : TE} {k : Nat} (I : Inv X pins σ H s) (L : LamS X.env.scope scope)
    (hb : bindArgs (PySem.W.kla_fn "<lambda>" (X.env.qual ++ "<lambda>") params body scope (cloFrom X.env.cells scope.names []) pm (.ref c') ctv) ⟨[], []⟩ = pure [])
    (e0 : Env0 X.prog X.w X.K X.mg X.base Y outer s1 HZ) (nl : s1.heap.NoLimit) (hd : Y.handled = none) (hr : Room (k + 1) Y) (un : Un (frs X.stack) [] H HZ s.heap s1.heap)
    (at_ : s1.heap.get? f = some (PySem.W.kla_obj "<lambda>" (X.env.qual ++ "<lambda>") params body scope (cloFrom X.env.cells scope.names []) pm c' ctv)) (hc : HZ c' = some (CodeO c' (X.env.qual ++ "<lambda>")))
    (P : PE (lamCx X Y outer s1 HZ E scope f c') body tb) (ht : tb σ HZ Q) : codeAny (model X.prog X.w) Y (.call (.ref f) ⟨[], []⟩) (CR (L2.CX X.prog X.w) outer X.prog X.w HZ s1 Q E) s1 := by
  obtain ⟨oc, vs, t, g1, g2, g3⟩ := (e0.hok c' _ hc).1
  refine PySem.W.kla_callFunE hr.depth at_ rfl L.co L.gen rfl ⟨c', oc, vs, t, rfl, g1, g2, g3⟩ ?_
  rw [hb]
  refine wpAny_pure (wpAny_newFunctionEnv (fun y hy => (L.own y hy).2) (fun y hy => absurd hy (by simp)) (fun h1 ns same => ⟨nl.fresh _ same, ?_⟩) L.kind)
  have up : ∀ b o, s1.heap.get? b = some o → h1.get? b = some o := fun b o e => same.extBut b o (Nat.ne_of_lt (Heap.lt_size e)) (Heap.get?_push_of_some _ e)
  have J := lam_start2 (E := E) (f := f) (c' := c') (tk := s1.toks + ([] : List (Str × Value)).length) I L e0 hd un ns up
  show codeAny _ _ (.expr body (lamEnv X scope s1.heap.objs.size f c')) _ _
  refine PySem.W.kla_codeExpr (wpAny_mono (P.run [] _ _ HZ Q J ht) (fun v s2 z => ?_) fun _ _ z => z)
  obtain ⟨u, H2, J2, ru, qu⟩ := z
  exact ⟨u, H2, J2.os, J2.bare, J2.base, J2.hok, ru, qu⟩
/-- a() in the def that got the lambda -/
def tAct (f c' : Addr) (q : Str) (i : Nat) (tl : XK → Hp → VK → Prop) (W : WX) : TE := fun σZ HZ Q => σZ[i]? = some (some (.ref f)) ∧ HZ c' = some (CodeO c' q) ∧ tl (WE W σZ) HZ Q
end
/-- a def that is handed a lambda and calls it: TT is what it makes of the lambda's reading -/
def Gives (X : Cx) (N : List Str) (x : Str) (sc : Scope) (g : Addr) (cd : Value) (b : List Stmt) (a : Str) (q : Str) (TT : (XK → Hp → VK → Prop) → Hp → VK → Prop) : Prop :=
  ∀ (f c' : Addr) (s : Shared) (H : Hp) (Q : VK) (tl : XK → Hp → VK → Prop),
    (∀ (W : WX) (pn : List (Addr × Obj)) (xe : Value → Shared → Prop) (p1 p2 : Pos), Takes ((cxOf CX0 X.prog X.w X.K X.mg X.base N x sc g cd X.A X.stack s H fun _ _ _ => False).tr pn xe) W →
      PE ((cxOf CX0 X.prog X.w X.K X.mg X.base N x sc g cd X.A X.stack s H fun _ _ _ => False).tr pn xe) (.Call (.Name a p1) [] [] p2) (tAct f c' q 0 tl W)) →
    Room 1 (X.A.deeper (envOfC x sc s.heap.objs.size g cd)) → H c' = some (CodeO c' q) → TT tl H Q →
    ∃ t, PSs (cxOf CX0 X.prog X.w X.K X.mg X.base N x sc g cd X.A X.stack s H fun _ _ _ => False).nox b t ∧ t { nx := fun _ H' => Q .non H', rt := Q } (L2.start N [.ref f]) H
/-- x(lambda: body) -/
def tGive (T : List (Addr × Str)) (TT : (XK → Hp → VK → Prop) → Hp → VK → Prop) (t : XK → TE) : TE := fun σ H Q => Tabs T H ∧ ∀ H1, ExtN H H1 → Tabs T H1 → TT (fun E H' Q' => t E σ H' Q') H1 Q
section
variable {X : Cx}
theorem pe_give {T : List (Addr × Str)} {TT : (XK → Hp → VK → Prop) → Hp → VK → Prop} {x a : Str} {g c P : Addr} {k : Nat} {st : Stmt} {fd : FuncData} {N : List Str} {params : Arguments} {body : Expr} {scope : Scope} {t : XK → TE} {p lp pos : Pos}
    (hgd : X.A.guards = some []) (hr : Room (k + 2) X.A) (F : Fun X.K x x st g fd) (B : Binds X.K fd [a] []) (S : FnScope N [a] (defScope st)) (hN : N[0]? = some a) (hv : Vis (defScope st) a) (hg : Gl X x) (hm : X.mg x = some (.ref g)) (hk : PySem.W.keepIn X.K (.ref g) = true)
    (G : ∀ cd, Gives X N x (defScope st) g cd (defBody st) a (X.env.qual ++ "<lambda>") TT)
    (TB : TabB X.base X.mg c P) (hcode : X.env.code = .ref c) (hT : (P, X.env.qual ++ "<lambda>") ∈ T) (hu : ∀ p ∈ T, p.1 = P → p.2 = X.env.qual ++ "<lambda>") (L : LamS X.env.scope scope) (hdef : defaultsOf params X.env = ([], []))
    (hb : ∀ (q : Str) (cl : List (Str × Addr)) (pm cv ctv : Value), bindArgs (PySem.W.kla_fn "<lambda>" q params body scope cl pm cv ctv) ⟨[], []⟩ = pure [])
    (hbody : ∀ (Y : Around) (outer : List Env) (s : Shared) (H : Hp) (E : XK) (f c' : Addr), Y.guards = some [] → Room k (Y.deeper (lamEnv X scope s.heap.objs.size f c')) → PE (lamCx X Y outer s H E scope f c') body (t E))
    (hdb : (x == ("__debug__" : Str)) = false := by decide) (hda : (a == ("__debug__" : Str)) = false := by decide) (hca : (a == ("__classdict__" : Str)) = false := by decide) :
    PE X (.Call (.Name x p) [.Lambda params body scope lp] [] pos) (tGive T TT t) := by
  refine ⟨fun pins s σ H Q I ⟨ht, h⟩ => wpAny_Call_Name_kw (ld_glob I hg hm (PySem.W.callWith_K (h₀ := X.base) I.ok.mod.kin hk ?_ (by rfl) (by rfl)) hdb)⟩
  show wpAny _ _ (spliced ((false, eval (.Lambda params body scope lp) X.env) :: backTo pos (starEach [] X.env))) _ _ s
  refine Calls.spliced_cons (lam_make2 I TB hcode hT hu ht hdef (L.has I.ok) fun f c' pm ctv H1 s1 I1 eN T1 hf hfn hfr hco => Calls.spliced_nil ⟨I1.kIn, ?_⟩)
  obtain ⟨oc, od, kV, doc, pm', an, cdv, ct, osl, rfl, lk, hcd⟩ := F.ex
  have rc : codeAny (model X.prog X.w) X.A (.call (.ref g) ⟨[.ref f], []⟩) (CR CX0 X.stack X.prog X.w H1 s1 Q fun _ _ _ => False) s1 := by
    refine run_ofS (N := N) (ps := [a]) (us := [.ref f]) (vs := [.ref f]) lk hcd S hr I1.env0 (B s1 [.ref f] I1.kIn rfl) (.cons rfl .nil) rfl fun hr1 => ?_
    have hr0 : Room 1 (X.A.deeper (envOfC x (defScope st) s1.heap.objs.size g cdv)) := hr1.mono (by omega)
    have act : ∀ (W : WX) (pn : List (Addr × Obj)) (xe : Value → Shared → Prop) (p1 p2 : Pos), Takes ((cxOf CX0 X.prog X.w X.K X.mg X.base N x (defScope st) g cdv X.A X.stack s1 H1 fun _ _ _ => False).tr pn xe) W →
        PE ((cxOf CX0 X.prog X.w X.K X.mg X.base N x (defScope st) g cdv X.A X.stack s1 H1 fun _ _ _ => False).tr pn xe) (.Call (.Name a p1) [] [] p2) (tAct f c' (X.env.qual ++ "<lambda>") 0 (fun E H' Q' => t E σ H' Q') W) := by
      intro W pn xe p1 p2 tk
      refine ⟨fun pinsZ sZ σZ HZ QZ IZ hz => ?_⟩
      obtain ⟨z1, z2, z3⟩ := hz
      refine wpAny_Call_Name_kw (thn ((pe_var (pos := p1) (i := 0) hN hv hda hca).run pinsZ sZ σZ HZ (fun v H2 => v = .ref f ∧ H2 = HZ) IZ ⟨.ref f, z1, rfl, rfl⟩) fun u s2 ⟨v, H2, I2, r2, q2⟩ => ?_)
      obtain ⟨rfl, rfl⟩ := q2
      obtain rfl : u = Value.ref f := r2
      have stay := I2.base.keep f _ hf hfn hfr (fun z => nomatch (show f ∈ ([] : List Addr) from z))
      refine PySem.W.callWith_F0 ⟨_, _, _, _, stay⟩ ?_
      have run2 : codeAny (model X.prog X.w) (X.A.deeper (envOfC x (defScope st) s1.heap.objs.size g cdv)) (.call (.ref f) ⟨[], []⟩) (CR (L2.CX X.prog X.w) (envOfC x (defScope st) s1.heap.objs.size g cdv :: X.stack) X.prog X.w H2 s2 QZ (WE W σZ)) s2 :=
        lam_run (X := X) (k := k) (tb := t (WE W σZ)) I1 L (hb _ _ _ _ _) I2.env0 I2.nolimit hr1.hd hr1 I2.base stay z2 (hbody _ _ s2 H2 (WE W σZ) f c' hgd (hr1.deeper _)) z3
      refine wpAny_call (codeAny_mono run2 fun r s3 hq => ?_)
      cases r with
      | error e => exact passAt tk σZ pinsZ H2 s2 e s3 I2 hq
      | ok fl =>
        cases fl with
        | ret u => exact I2.after hq
        | next => exact False.elim hq
        | brk => exact False.elim hq
        | cont => exact False.elim hq
    obtain ⟨t', a1, a2⟩ := G cdv f c' s1 H1 Q (fun E H' Q' => t E σ H' Q') act hr0 hco (h H1 eN T1)
    exact ⟨t', a1.nox, a2⟩
  refine wpAny_call (codeAny_mono rc fun r s2 hq => ?_)
  cases r with
  | error e => exact (show False from hq).elim
  | ok fl =>
    cases fl with
    | ret u => exact I1.after hq
    | next => exact False.elim hq
    | brk => exact False.elim hq
    | cont => exact False.elim hq
end
end FR
set_option Elab.async false
set_option linter.all false
set_option maxRecDepth 100000
set_option maxHeartbeats 4000000
/-! own operators with anything on the right; repr of any datum; what a raising call lets out; keys of a dict of the module -/
namespace FR
open PySem PySem.Spec PyProof.Rows L2 TL
section
variable {X : Cx}
theorem tk0 {X : Cx} : Takes X (fun _ _ _ _ => False) := fun u s' h => by
  obtain ⟨_, _, _, _, _, _, _, _, _, _, _, _, _, _, _, _, z⟩ := h
  exact z.elim
/-- nothing is let out -/
theorem px0 : Passes (L2.CX X.prog X.w) X (fun _ _ _ => False) := passes_call tk0 fun _ _ _ _ h => h
/-- let out of the def itself -/
theorem pxE {E : XK} (hs : X.stack = X.env :: X.outer) (hf : X.env.frame = some X.env.locals) (hex : X.ex = []) {E1 : Value → Shared → Prop}
    (hx : X.xe = fun e s' => wpAny (model X.prog X.w) X.A (leaving X.env e) (fun _ s'' => L2.CX X.prog X.w X.outer X.H_0 X.s_0 E e s'') E1 s') : Passes (L2.CX X.prog X.w) X E := passes_call (takes_of hs hf hex hx) fun _ _ _ _ h => h
def known (T : String) (nm : String) : Bool := (fastLookup T (dunder nm)).isSome && (fastLookup T (dunderR nm)).isSome
theorem fills_any {T nm : String} (h : known T nm = true) : ∃ r z, fillsNumberSlot (.type T) nm = pure r ∧ typeLookup (.type T) (dunderR nm) = pure z := by
  unfold known at h
  rw [Bool.and_eq_true] at h
  obtain ⟨a, ha⟩ := Option.isSome_iff_exists.mp h.1
  obtain ⟨b, hb⟩ := Option.isSome_iff_exists.mp h.2
  have e1 : typeLookup (.type T) (dunder nm) = pure a := by rw [typeLookup_type, builtinLookup_eq_fast, ha]
  have e2 : typeLookup (.type T) (dunderR nm) = pure b := by rw [typeLookup_type, builtinLookup_eq_fast, hb]
  unfold fillsNumberSlot
  simp only [e1, e2, pure_bind]
  exact ⟨_, _, rfl, rfl⟩
variable {C g : Addr} {n : Nat} {sp : Sp} {E : XK} {CX : CXT}
/-- x op y, x of the class at C; its def lets something out -/
def rBinX (K : PySem.W.Frag) (C : Addr) (nm : String) (sp : Sp) (E : XK) : R2 := fun x y H Q => ∃ a dx fs, x = .ref a ∧ H a = some (.ins C dx fs) ∧
  ((∃ b dy gs, y = .ref b ∧ H b = some (.ins C dy gs) ∧ sp [x, y] H Q E) ∨ ∃ T, TyX K H y (.type T) ∧ known T nm = true ∧ PySem.W.subIn K (.type T) (.ref C) = some false ∧ sp [x, y] H (fun _ _ => False) E)
theorem op_binX {op : Operator} (hc : PySem.W.selfFirst X.K C = true) (hs : PySem.W.findIn X.K (.ref C) (PySem.dunder op.info.2) = some (some (.ref g))) (hR : PySem.W.findIn X.K (.ref C) (PySem.dunderR op.info.2) = some none) (hf : PySem.W.isFn X.K (.ref g) = true)
    (F : FnR X.prog X.w X.K X.mg X.base CX n g sp) (hr : Room n X.A) (hx : Passes CX X E) : OpR X (binaryOp op) (rBinX X.K C op.info.2 sp E) := by
  intro pins s σ H x y v u Q I rx ry h
  obtain ⟨a, dx, fs, rfl, ha, ⟨b, dy, gs, rfl, hb, q⟩ | ⟨T, ty, kn, sub, q⟩⟩ := h
  · exact op_binI hc hs hf F hr hx pins s σ H _ _ v u Q I rx ry ⟨a, dx, fs, b, dy, gs, rfl, rfl, ha, hb, q⟩
  cases (show v = Value.ref a from rx)
  obtain ⟨od, J⟩ := ins_inst I ha
  obtain ⟨Pk, kx, hP, _⟩ := L2.kit_of I ry ty
  have KI := I.kIn
  have look := kx.ty (model X.prog X.w) s.heap KI hP
  obtain ⟨cd, hcd, hm⟩ := PySem.W.any_some hc
  obtain ⟨rest, hm⟩ : ∃ rest, cd.mro = .ref C :: rest := by
    cases z : cd.mro with
    | nil => rw [z] at hm; cases hm
    | cons c r => rw [z, List.head?_cons] at hm; cases (beq_iff_eq.mp hm); exact ⟨r, rfl⟩
  obtain ⟨r, z0, hfill, hz0⟩ := fills_any kn
  have run : wpAny (model X.prog X.w) X.A (callSpecial? (.ref a) (PySem.dunder op.info.2) [u]) (fun _ _ => False) X.xe s := by
    refine PySem.W.special_fn KI J hs (beq_iff_eq.mp hf) (wpAny_mono (wpAny_call (run_fnR (us := [.ref a, u]) (vs := [.ref a, y]) F hr hx I (.cons rfl (.cons ry .nil)) q)) (fun w s' z => ?_) fun _ _ z => z)
    obtain ⟨_, _, _, _, z⟩ := z
    exact z
  have fin : ∀ {α : Type} (f : Option Value → Sem α) (Q' : α → Shared → Prop), wpAny (model X.prog X.w) X.A (tryMethod (.ref a) (PySem.dunder op.info.2) u >>= f) Q' X.xe s := fun f Q' => by
    refine wpAny_bind ?_
    unfold tryMethod
    exact wpAny_bind (wpAny_mono run (fun _ _ z => z.elim) fun _ _ z => z)
  unfold binaryOp
  refine wpAny_holding (wpAny_bind ?_)
  show wpAny _ _ (binaryOp1 op.info.2 (.ref a) u) _ _ _
  generalize op.info.2 = nm at *
  unfold binaryOp1
  refine wpAny_bind (J.type.here (wpAny_bind (look.here (wpAny_bind ((PySem.W.fills_K KI hcd hm hs).here ?_)))))
  have ne : (Value.ref C == Value.type T) = false := by simp
  simp only [ne, Bool.false_eq_true, if_false]
  rw [hfill]
  refine wpAny_bind (wpAny_pure ?_)
  cases r with
  | false =>
    simp only [Bool.and_false, Bool.false_eq_true, if_false, Bool.false_and, if_true, pure_bind]
    exact fin _ _
  | true =>
    simp only [Bool.and_self, Bool.not_false, if_true]
    refine wpAny_bind ((PySem.W.looks_subIn KI sub).here ?_)
    simp only [Bool.false_eq_true, if_false, Bool.not_false, Bool.and_self, if_true, pure_bind]
    refine wpAny_bind ?_
    unfold numberSlotInPython
    refine wpAny_bind ((PySem.W.looks_findIn KI hs).here ?_)
    refine wpAny_bind ?_
    refine wpAny_pure ?_
    refine wpAny_bind ((PySem.W.looks_findIn KI hR).here ?_)
    refine wpAny_bind (wpAny_pure ?_)
    simp only [Bool.or_false, if_true, Bool.true_or]
    refine wpAny_pure ?_
    simp only [if_true, pure_bind, Bool.not_false]
    rw [hz0]
    exact wpAny_bind (wpAny_pure (fin _ _))
/-- x op y (a comparison), x of the class at C, anything on the right -/
def rCmpX (K : PySem.W.Frag) (C : Addr) (sp : Sp) (E : XK) : R2 := fun x y H Q => ∃ a dx fs t, x = .ref a ∧ H a = some (.ins C dx fs) ∧ TyX K H y t ∧ PySem.W.notFirst K C t = true ∧ sp [x, y] H Q E
theorem op_cmpX {op : CmpOp} (hop : ∀ a b, compareOp op a b = richCompare op a b) (hs : PySem.W.findIn X.K (.ref C) (cmpInfo op).2.1 = some (some (.ref g))) (hf : PySem.W.isFn X.K (.ref g) = true) (F : FnR X.prog X.w X.K X.mg X.base CX n g sp)
    (hr : Room n X.A) (hx : Passes CX X E) : OpR X (compareOp op) (rCmpX X.K C sp E) := by
  intro pins s σ H x y v u Q I rx ry h
  obtain ⟨a, dx, fs, t, rfl, ha, ty, hn, q⟩ := h
  cases (show v = Value.ref a from rx)
  obtain ⟨od, J⟩ := ins_inst I ha
  obtain ⟨Pk, kx, hP, _⟩ := L2.kit_of I ry ty
  obtain ⟨m, hF⟩ := I.fr
  rw [hop]
  refine PySem.W.cmp_K (op := op) (tb := t) hr.units0 hF I.ok.mod.kin J (kx.ty _ _ I.kIn hP) hn hs hf ?_
  refine wpAny_mono (wpAny_call (run_fnR (us := [.ref a, u]) (vs := [.ref a, y]) F hr hx I (.cons rfl (.cons ry .nil)) q)) (fun w s' z => ?_) fun _ _ x => x
  obtain ⟨z', H', I', rz, qz⟩ := z
  exact SlX.cmpback rz ⟨z', H', I', rz, qz⟩
end
/-! ### repr -/
section
variable {X : Cx}
/-- repr of data, of a scalar too -/
def rReprS : List V → Hp → VK → Prop := fun xs H Q => rReprQ xs H Q ∨ (∃ i : Int, xs = [.int i] ∧ i.natAbs.log2 < 1920 ∧ Q (.str (PyData.shown (.int i))) H) ∨ (∃ b : Bool, xs = [.bl b] ∧ Q (.str (PyData.shown (.bool b))) H) ∨ (xs = [.non] ∧ Q (.str (PyData.shown .none)) H) ∨
  ∃ t : Str, xs = [.str t] ∧ (PyData.shown (.str t)).length ≤ sizeLine ∧ Q (.str (PyData.shown (.str t))) H
theorem call_reprX (hgd : X.A.guards = some []) (hu : X.A.units + 65 < cLine) : CallR X (.builtin "repr") rReprS := fun pins s σ H xs us Q I r h => by
  have fin : ∀ (t : Str) (u : Tok), Q (.str t) H → EP X pins σ Q (.str t u) { s with toks := s.toks + 1 } := fun t u q => ⟨.str t, H, I.tok _, ⟨_, rfl⟩, q⟩
  rcases h with h | ⟨i, rfl, hi, q⟩ | ⟨b, rfl, q⟩ | ⟨rfl, q⟩ | ⟨t, rfl, ht, q⟩
  · exact call_reprQ hgd hu pins s σ H xs us Q I r h
  · obtain ⟨u, rfl, k, rfl⟩ := r.one
    exact PySem.P.repr_of_int hi (fin _ _ q)
  · obtain ⟨u, rfl, ru⟩ := r.one
    cases (show u = Value.bool b from ru)
    exact PySem.P.repr_of_bool (fin _ _ (by cases b <;> exact q))
  · obtain ⟨u, rfl, ru⟩ := r.one
    cases (show u = Value.none from ru)
    exact PySem.P.repr_of_none (fin _ _ q)
  · obtain ⟨u, rfl, k, rfl⟩ := r.one
    exact PySem.P.repr_of_str (fin _ _ q) ht
end
/-! ### the keys of a dict of the module -/
theorem keys_miss {z : Str} : ∀ {ks : List Str} {l : List DictEntry}, Vals (ks.map V.str) (l.map (·.key)) → z ∉ ks → l.find? (·.key.isStr z) = none ∧ l.any (·.refKey) = false
  | [], l, h, _ => by
    cases l with
    | nil => exact ⟨rfl, rfl⟩
    | cons e r => cases h
  | k :: ks, l, h, hz => by
    cases l with
    | nil => cases h
    | cons e r =>
      cases h with
      | cons a b =>
        obtain ⟨t, ht⟩ := (show ∃ t, e.key = Value.str k t from a)
        obtain ⟨h1, h2⟩ := keys_miss b fun m => hz (List.mem_cons_of_mem _ m)
        have nk : k ≠ z := fun e => hz (by rw [e]; exact List.mem_cons_self)
        refine ⟨?_, ?_⟩
        · rw [List.find?_cons_of_neg (by rw [ht]; simp [Value.isStr, nk])]
          exact h1
        · rw [List.any_cons, h2]
          simp [DictEntry.refKey, ht]
theorem ns_miss {K : PySem.W.Frag} {d : Addr} {c : Value} {od : Option Addr} {es : Array DictEntry} {ep : Nat} {sl : Array (Option Value)} {ks : List Str} {z : Str} (hl : K.lookup d = some ⟨c, od, .dict es ep, sl⟩) (hv : Vals (ks.map V.str) (es.toList.map (·.key))) (hz : z ∉ ks) : PySem.W.nsIn K d z = some none := by
  obtain ⟨h1, h2⟩ := keys_miss hv hz
  unfold PySem.W.nsIn
  rw [hl]
  simp only [h1, h2, Bool.false_eq_true, if_false]
end FR
set_option Elab.async false
set_option linter.all false
set_option maxRecDepth 100000
/-! «x in texts» for anything; a list of anything beside the empty list -/
namespace FR
open PySem PySem.Spec PyProof.Rows L2 TL PySem.SeqAt
section
variable {X : Cx}
/-- what «v in the texts ws» gives -/
def InT (K : PySem.W.Frag) (H : Hp) (v : V) (ws : List Str) (r : Bool) : Prop := (flatV v = true ∧ inV v (ws.map V.str) = r) ∨ (∃ d, Dp K H v d ∧ SeqAt.shaped d = true ∧ SeqAt.shaped (.list (ws.map .str)) = true ∧ ((ws.map PyData.str).any fun z => PyData.eqv z d) = r) ∨
  ∃ (a : Addr) (kvs : List (Key × V)), v = .ref a ∧ H a = some (.dK kvs) ∧ false = r
def rInT (K : PySem.W.Frag) : R2 := fun x y H Q => ∃ (p : Addr) (ws : List Str) (r : Bool), y = .ref p ∧ SqL K H p (ws.map V.str) ∧ InT K H x ws r ∧ Q (.bl r) H
theorem op_inT (hu : X.A.units + 65 < cLine) : OpR X (compareOp .In) (rInT X.K) := by
  intro pins s σ H x y v u Q I rx ry h
  obtain ⟨p, ws, r, rfl, hp, ⟨hf, rfl⟩ | ⟨d, hd, s1, s2, rfl⟩ | ⟨a, kvs, rfl, ha, rfl⟩, q⟩ := h
  · exact op_in_seq pins s σ H x _ v u Q I rx ry ⟨p, _, rfl, .inl hp, hf, flat_strs ws, q⟩
  · exact op_inD hu pins s σ H x _ v u Q I rx ry ⟨d, _, hd, .lst hp (dpAll_strs ws), s1, s2, q⟩
  · cases (show v = Value.ref a from rx)
    cases (show u = Value.ref p from ry)
    obtain ⟨_, _, vs, kv, o, es, ep, e, hx, hd, _, _, _⟩ := (show ObjOk X.prog X.w H s.heap a (.dK _) from I.hok _ _ ha)
    obtain ⟨its, rv, hl, _⟩ := I.list hp
    refine in_listAt (fun _ => false) hl.isList (fun z hz => ?_) ⟨.bl false, H, I, ?_, q⟩
    · obtain ⟨x, t, rfl⟩ := vals_strs rv z (by simpa using hz)
      exact eqAt_str_dict x t e hx.1 hd (by show X.A.units + 1 < cLine; omega)
    · show Value.bool _ = Value.bool false
      simp
def rNil (K : PySem.W.Frag) (neg : Bool) : R2 := fun x y H Q => ∃ (p q : Addr) (xs : List V), x = .ref p ∧ y = .ref q ∧ SqL K H p xs ∧ SqL K H q [] ∧ Q (.bl (neg != xs.isEmpty)) H
theorem op_eqNil (hu : X.A.units + 65 < cLine) : OpR X (compareOp .Eq) (rNil X.K false) := by
  intro pins s σ H x y v u Q I rx ry h
  obtain ⟨p, q, xs, rfl, rfl, hp, hq, z⟩ := h
  cases (show v = Value.ref p from rx)
  cases (show u = Value.ref q from ry)
  obtain ⟨its, rv, hl, _⟩ := I.list hp
  obtain ⟨its2, rv2, hl2, _⟩ := I.list hq
  cases rv2
  cases rv with
  | nil => exact SeqAt.eq_listAt (e := fun _ => true) hl.isList hl2.isList rfl (by omega) (fun j h1 _ => absurd h1 (by simp)) ⟨.bl true, H, I, rfl, z⟩
  | cons a b => exact SeqAt.eq_list_lengthsAt hl.isList hl2.isList (by simp) (by omega) ⟨.bl false, H, I, rfl, z⟩
theorem op_neNil (hu : X.A.units + 65 < cLine) : OpR X (compareOp .NotEq) (rNil X.K true) := by
  intro pins s σ H x y v u Q I rx ry h
  obtain ⟨p, q, xs, rfl, rfl, hp, hq, z⟩ := h
  cases (show v = Value.ref p from rx)
  cases (show u = Value.ref q from ry)
  obtain ⟨its, rv, hl, _⟩ := I.list hp
  obtain ⟨its2, rv2, hl2, _⟩ := I.list hq
  cases rv2
  cases rv with
  | nil => exact RcNeAt.lists (e := fun _ => true) hl.isList hl2.isList rfl (by omega) (fun j h1 _ => absurd h1 (by simp)) X.prog X.w _ _ ⟨.bl false, H, I, rfl, z⟩
  | cons a b => exact RcNeAt.lists_lengths hl.isList hl2.isList (by simp) (by omega) X.prog X.w _ _ ⟨.bl true, H, I, rfl, z⟩
end
end FR
set_option Elab.async false
set_option linter.all false
set_option maxRecDepth 100000
set_option maxHeartbeats 2000000
/-! the end of a row whose defs make lambdas, for a promise that knows that no repr is under way -/
namespace FR
open PySem PySem.Spec PyProof.Rows L2 TL LamX
/-- the script (where it is not the module's) and the empty tables -/
def hStart (a : Addr) (o : HO) (own : Bool) (ts : List Addr) : Hp := fun b => if b ∈ ts then some (.tbl #[]) else if b = a ∧ own = true then some o else none
section
variable {a : Addr} {o : HO} {own : Bool} {ts : List Addr}
theorem hStart.tab {b : Addr} (h : b ∈ ts) : hStart a o own ts b = some (.tbl #[]) := if_pos h
theorem hStart.script (h : a ∉ ts) (w : own = true) : hStart a o own ts a = some o := (if_neg h).trans (if_pos ⟨rfl, w⟩)
theorem hStart.what {b : Addr} {u : HO} (h : hStart a o own ts b = some u) : (b ∈ ts ∧ u = .tbl #[]) ∨ (b ∉ ts ∧ b = a ∧ own = true ∧ u = o) := by
  unfold hStart at h
  split at h
  · rename_i m
    exact .inl ⟨m, (Option.some.inj h).symm⟩
  · rename_i m
    split at h
    · rename_i e
      exact .inr ⟨m, e.1, e.2, (Option.some.inj h).symm⟩
    · cases h
end
abbrev oTab : Obj := { cls := .none, data := .fields #[] }
theorem law_callTG {P : Program} {w : World} {K : PySem.W.Frag} {mg mb : Str → Option Value} {k : Nat} {fa a : Addr} {cs : List (Addr × Addr)} {sp : Sp} {s1 : Shared} {vs : List Value} {ns : List Int}
    (KX : K.In s1.heap) (hns : s1.heap.Ns mainGlobals mg) (hb : s1.heap.Ns builtinsNs mb) (hbb : ∀ x : Str, x ≠ "__name__" → mb x = bootBuiltins x) (hlim : s1.heap.NoLimit) (hg : s1.gens = #[])
    (hT : ∀ p ∈ cs, s1.heap.get? p.2 = some oTab) (nT : ∀ p ∈ cs, K.lookup p.2 = none) (C : ∀ p ∈ cs, PySem.W.CodeHd s1.heap p.1 p.2)
    (hbm : ∃ (bm : Addr) (ob : Obj), mg "__builtins__" = some (.ref bm) ∧ bm ≠ builtinsNs ∧ s1.heap.get? bm = some ob ∧ ob.cls = .type "module" ∧ ob.dict = some builtinsNs ∧ ob.data = .plain)
    (ha : s1.heap.get? a = some { cls := .type "list", data := .seq vs.toArray }) (hi : IntsAre vs ns) (hl : ns.length ≤ sizeLine) (hr : Room k callerA)
    (F : ∀ base : Heap, K.In base → base.Ns mainGlobals mg → (∀ p ∈ cs, TabB base mg p.1 p.2) → FnG P w K mg base CX0 k fa sp)
    (hsp : ∀ H : Hp, (∀ p ∈ cs, H p.2 = some (.tbl #[])) → SqL K H a (ns.map V.int) → sp [.ref a] H (fun v _ => v = .bl true) fun _ _ _ => False) :
    codeAny (model P w) callerA (.call (.ref fa) ⟨[.ref a], []⟩) (fun r s' => r = .ok (.ret (.bool true)) ∧ OldK s1.heap s'.heap ∧ s'.os = s1.os ∧ AllBare s'.gens) s1 := by
  have rv := vals_ints hi
  have lv := hi.length
  have isT : ∀ b ∈ cs.map (·.2), s1.heap.get? b = some oTab := fun b m => by
    obtain ⟨p, hp, rfl⟩ := List.mem_map.mp m
    exact hT p hp
  have aT : a ∉ cs.map (·.2) := fun m => by
    have := isT a m
    rw [ha] at this
    cases congrArg Obj.data (Option.some.inj this)
  obtain ⟨own, how⟩ : ∃ own, own = (K.lookup a).isNone := ⟨_, rfl⟩
  obtain ⟨H, hH⟩ : ∃ H, hStart a (.frz { cls := .type "list", data := .seq vs.toArray } (.lst (ns.map V.int))) own (cs.map (·.2)) = H := ⟨_, rfl⟩
  have tabs : ∀ b ∈ cs.map (·.2), H b = some (.tbl #[]) := fun b m => by rw [← hH]; exact hStart.tab m
  have what : ∀ {b : Addr} {u : HO}, H b = some u → (b ∈ cs.map (·.2) ∧ u = .tbl #[]) ∨ (b ∉ cs.map (·.2) ∧ b = a ∧ own = true ∧ u = .frz { cls := .type "list", data := .seq vs.toArray } (.lst (ns.map V.int))) := fun {b u} h => hStart.what (by rw [hH]; exact h)
  have hS : SqL K H a (ns.map V.int) := by
    cases hk : K.lookup a with
    | some o =>
      cases ha.symm.trans (KX a o hk)
      exact .inr ⟨_, vs.toArray, _, hk, rfl, rfl, rfl, by rw [List.size_toArray, lv]; exact hl, by simpa using rv⟩
    | none => exact .inl (.inr ⟨_, by rw [← hH]; exact hStart.script aT (by rw [how, hk]; rfl)⟩)
  have hok : HOk P w H s1.heap := fun b u z => by
    rcases what z with ⟨m, rfl⟩ | ⟨_, rfl, _, rfl⟩
    · exact isT b m
    · exact ⟨ha, by rw [List.length_map]; exact hl, vs, _, rv, ha⟩
  have apart : ∀ {b : Addr} {ob : Obj}, s1.heap.get? b = some ob → (∀ l n, ob.data ≠ .seq l n) → ob.data ≠ .fields #[] → H b = none := fun {b ob} e n1 n2 => by
    cases q : H b with
    | none => rfl
    | some u =>
      rcases what q with ⟨m, _⟩ | ⟨_, rfl, _, _⟩
      · cases (isT b m).symm.trans e
        exact (n2 rfl).elim
      · cases ha.symm.trans e
        exact (n1 _ _ rfl).elim
  have isD : ∀ {b : Addr} {ob : Obj} {es : Array DictEntry} {ep : Nat}, s1.heap.get? b = some ob → ob.data = .dict es ep → H b = none := fun e d => apart e (by rw [d]; exact fun _ _ z => nomatch z) (by rw [d]; exact fun z => nomatch z)
  have nsH : ∀ {b : Addr} {m : Str → Option Value}, s1.heap.Ns b m → (hidT s1.heap H).Ns b m := fun ⟨o, es, ep, e, d, r⟩ => ⟨o, es, ep, hidT_get e (isD e d), d, r⟩
  have KH : K.In (hidT s1.heap H) := fun b o e => hidT_get (KX b o e) (by
    cases q : H b with
    | none => rfl
    | some u =>
      rcases what q with ⟨m, _⟩ | ⟨_, rfl, w0, _⟩
      · obtain ⟨p, hp, rfl⟩ := List.mem_map.mp m
        cases (nT p hp).symm.trans e
      · rw [how, e] at w0
        cases w0)
  have md : Mod K mg (hidT s1.heap H) := ⟨KH, nsH hns, ⟨mb, nsH hb, hbb⟩, hlim.elim fun mc hc => ⟨mc, nsH hc.1, hc.2⟩⟩
  have en : Env0 P w K mg (hidT s1.heap H) callerA [] s1 H := ⟨rfl, md, fun _ _ e => of_hidT e, Nat.le_of_eq (hidT_size ..), True.intro, fun _ hb => (List.not_mem_nil hb).elim, hok, AllBare.of_eq hg⟩
  have tb : ∀ p ∈ cs, TabB (hidT s1.heap H) mg p.1 p.2 := fun p hp => by
    refine ⟨?_, ?_, fun z => ?_⟩
    · obtain ⟨oc, us, file, tf, flags, tg, inF, text, tt, e1, r1, r2, r3, r⟩ := C p hp
      refine ⟨oc, us, file, tf, flags, tg, inF, text, tt, hidT_get e1 (apart e1 (by rw [r2]; exact fun _ _ z => nomatch z) fun z => ?_), r1, r2, r3, r⟩
      rw [r2] at z
      cases z
      simp at r3
    · obtain ⟨bm, ob, b1, b2, b3, b4, b5, b6⟩ := hbm
      refine ⟨bm, ob, b1, b2, fun z => ?_, fun z => ?_, hidT_get b3 (apart b3 (by rw [b6]; exact fun _ _ z => nomatch z) (by rw [b6]; exact fun z => nomatch z)), b4, b5, b6⟩
      · obtain ⟨og, es, ep, e, d, _⟩ := hns
        rw [z] at b3
        cases e.symm.trans b3
        rw [b6] at d
        cases d
      · rw [z] at b3
        cases (hT p hp).symm.trans b3
        cases b6
    · obtain ⟨og, es, ep, e, d, _⟩ := hns
      rw [z] at e
      cases (hT p hp).symm.trans e
      cases d
  refine codeAny_mono (F _ KH (nsH hns) tb callerA [] s1 H [.ref a] [.ref a] _ _ rfl hr en (.cons rfl .nil) (hsp H (fun p hp => tabs _ (List.mem_map.mpr ⟨p, hp, rfl⟩)) hS)) fun r s' h => ?_
  match r, h with
  | .error e, h => exact h.elim
  | .ok .next, h => exact h.elim
  | .ok .brk, h => exact h.elim
  | .ok .cont, h => exact h.elim
  | .ok (.ret u), h =>
    obtain ⟨v, H', os, bare, un, hok', rr, q⟩ := h
    cases (show v = .bl true from q)
    cases (show u = Value.bool true from rr)
    have same : ∀ b ob, b ∉ cs.map (·.2) → s1.heap.get? b = some ob → s'.heap.get? b = some ob := fun b ob nb e => by
      cases z : H b with
      | none => exact un.keep b ob e z (fun y => (List.not_mem_nil y).elim) List.not_mem_nil
      | some u =>
        rcases what z with ⟨m, _⟩ | ⟨_, rfl, _, rfl⟩
        · exact (nb m).elim
        · cases ha.symm.trans e
          exact (hok' b _ (un.frzs b _ _ z)).1
    have more : ∀ p ∈ cs, ∃ ms : Array Value, s'.heap.get? p.2 = some { cls := .none, data := .fields ms } := fun p hp => by
      obtain ⟨ms, z⟩ := un.tbls p.2 #[] (tabs _ (List.mem_map.mpr ⟨p, hp, rfl⟩))
      exact ⟨_, hok' p.2 _ z⟩
    refine ⟨rfl, ⟨fun b ob e => ?_, fun b ob e => ?_⟩, os, bare⟩
    · by_cases m : b ∈ cs.map (·.2)
      · obtain ⟨p, hp, rfl⟩ := List.mem_map.mp m
        obtain ⟨ms, z⟩ := more p hp
        cases (hT p hp).symm.trans e
        exact .inr (.inl ⟨((C p hp).tab (hT p hp)).isCodeTable, rfl, #[], ms, rfl, by rw [Array.empty_append]; exact z⟩)
      · exact .inl (same b ob m e)
    · by_cases m : b ∈ cs.map (·.2)
      · obtain ⟨p, hp, rfl⟩ := List.mem_map.mp m
        obtain ⟨ms, z⟩ := more p hp
        exact ⟨_, z⟩
      · exact ⟨ob, same b ob m e⟩
/-- what is known of the law's promise at the heap h -/
def LawG (l : PySem.W.OpenLaw) (w : World) (K : PySem.W.Frag) (k n : Nat) (mg : Str → Option Value) (fa : Addr) (h : Heap) : Prop :=
  ∃ (cs : List (Addr × Addr)) (sp : Sp), (∀ p ∈ cs, h.get? p.2 = some oTab) ∧ (∀ p ∈ cs, K.lookup p.2 = none) ∧ (∀ p ∈ cs, PySem.W.CodeHd h p.1 p.2) ∧
    (∀ (H : Hp) (a : Addr) (ns : List Int), ns.length ≤ n → (∀ p ∈ cs, H p.2 = some (.tbl #[])) → SqL K H a (ns.map V.int) → sp [.ref a] H (fun v _ => v = .bl true) fun _ _ _ => False) ∧
    ∀ base : Heap, K.In base → base.Ns mainGlobals mg → (∀ p ∈ cs, TabB base mg p.1 p.2) → FnG l.prog w K mg base CX0 k fa sp
theorem walk_ofTG {l : PySem.W.OpenLaw} {n k : Nat} {q : Program} {loose : List Str} {XP : (Str → Option Value) → Heap → Prop} {YP : World → Heap → Prop} {d : DefRec} {K : Params → PySem.W.Frag}
    (hn : l.most = some n) (hn2 : n ≤ sizeLine) (hdf : d.params.defaults = []) (hr : Room k callerA) (hY : ∀ (w : World) (h : Heap), YP w h → (K w.params).In h)
    (F : ∀ (w : World) (mg : Str → Option Value) (fa : Addr) (h : Heap), YP w h → (K w.params).In h → h.Ns mainGlobals mg → mg d.name = some (.ref fa) → LawG l w (K w.params) k n mg fa h) :
    PySem.W.WalkO q loose XP YP l.row.toRowW d [] (fun f vs => PySem.call f vs) := by
  refine Att.attach_call hn hdf fun w s0 s1 mg mb fa o pm cd doc a vs ns G Y ho hd hcd hmg hobj hints hlen hg => ?_
  have KX := hY w _ Y
  obtain ⟨cs, sp, hT, nT, C, hsp, hF⟩ := F w mg fa _ Y KX G.T.g hmg
  exact law_callTG KX G.T.g G.T.b G.T.builtins G.T.nolimit hg hT nT C G.T.bmain hobj hints (Nat.le_trans hlen hn2) hr hF fun H hH hS => hsp H a ns hlen hH hS
/-- a def whose code object is known: it makes lambdas -/
structure FunL (K : PySem.W.Frag) (x qual : Str) (st : Stmt) (f : Addr) (c : Addr) : Prop where
  ex : ∃ (oc : Value) (od : Option Addr) (kV doc pm : Value) (an : Option Addr) (ct : Value) (osl : Array (Option Value)), K.lookup f = some ⟨oc, od, .func (PySem.W.fnOf x qual (defArgs st) (defBody st) (defScope st) .none kV doc pm an (.ref c) ct), osl⟩
  cd : PySem.W.codeIn K (.ref c) qual = true
theorem okGC0 {P : Program} {w : World} {K : PySem.W.Frag} {mg : Str → Option Value} {base : Heap} {k : Nat} {f c : Addr} {sp : Sp} {x qual : Str} {st : Stmt} {fd : FuncData} {N ps : List Str} (L : FunL K x qual st f c) (F : L2.Fun K x qual st f fd) (S : FnScope N ps (defScope st)) (B : Binds K fd ps []) (hlen : ∀ vs H Q E, sp vs H Q E → vs.length = ps.length)
    (hbody : ∀ (A : Around) (outer : List Env) (s : Shared) (H : Hp) (vs : List V) (Q : VK) (E : XK), A.guards = some [] → Room k (A.deeper (envOfC qual (defScope st) s.heap.objs.size f (.ref c))) → sp vs H Q E →
      ∃ t, PSs (cxOf CX0 P w K mg base N qual (defScope st) f (.ref c) A outer s H E).nox (defBody st) t ∧ t { nx := fun _ H' => Q .non H', rt := Q } (start N vs) H) : FnG P w K mg base CX0 (k + 1) f sp := by
  intro A outer s H us vs Q E hg hr e0 r hsp
  obtain ⟨oc, od, kV, doc, pm, an, cdv, ct, osl, rfl, lk, hcd⟩ := F.ex
  obtain ⟨oc', od', kV', doc', pm', an', ct', osl', lk'⟩ := L.ex
  cases lk.symm.trans lk'
  have hv : vs.length = ps.length := hlen _ _ _ _ hsp
  have hu : us.length = ps.length := by rw [← r.length]; exact hv
  have KI : K.In s.heap := e0.mod.kin.keeps fun b o e => (e0.bs b o e).1
  have b0 := B s us KI (by rw [List.append_nil]; exact hu)
  rw [List.append_nil] at b0
  refine StX.run_bnd lk hcd S hr e0 (G := fun xs H2 => xs = vs ∧ H2 = H) (fun A' Ex Q' h => ?_) fun s2 H2 xs ⟨ex, eH⟩ hr' => ?_
  · exact b0 _ _ _ _ (h s H vs us e0 Un.refl rfl (fun _ _ z => z) r hv ⟨rfl, rfl⟩)
  · subst ex eH
    obtain ⟨t, a, b⟩ := hbody A outer s2 _ _ Q E hg hr' hsp
    exact ⟨t, a.nox, b⟩
end FR
set_option Elab.async false
set_option linter.all false
set_option maxRecDepth 100000
/-! a classmethod without arguments -/
namespace ClX
open PySem PySem.Spec PyProof.Rows L2
section
variable {X : Cx} {C g p : Addr} {mc : Value} {m : Str} {o : Expr} {ta : TE} {CX : CXT} {k : Nat} {sp : Sp} {E : XK} {apos pos : Pos}
theorem pe_cmeth0 {pl : Sem Bool} (he : PE X o ta) (r : CRead X.K C mc) (c : CMet X.K C mc m p g) (F : FnR X.prog X.w X.K X.mg X.base CX k g sp) (hr : Room k X.A) (hx : Passes CX X E)
    (ht : eval (.Call (.Attribute o m apos) [] [] pos) X.env = (do
      let ov ← eval o X.env
      standAt apos.atName
      let (f, first) ← holding [ov] (getMethod ov m pl)
      callWith pos f first (backTo pos (starEach [] X.env)) (backToKw pos (keywordEach [] X.env))) := by rfl) :
    PE X (.Call (.Attribute o m apos) [] [] pos) (tCMeth C sp E ta tNil) := by
  refine ⟨fun pins s σ H Q I h => ?_⟩
  refine PySem.W.methodCall_KW (pl := pl) (thn (he.run pins s σ H _ I h) fun u s1 ⟨x, H1, I1, rx, ex, q⟩ => ?_) ht
  subst ex
  obtain rfl : u = Value.ref C := rx
  refine getmethcm_ok I1 r c fun s2 I2 => ?_
  exact PySem.W.callWith_M0 (first := []) ⟨pin_at I2, I2.kIn⟩ c.fi (run_cm F hr hx I2 .nil q)
end
end ClX
set_option Elab.async false
set_option linter.all false
set_option maxRecDepth 100000
set_option maxHeartbeats 1000000
/-! zip of a tuple and a list (any two iterators that are asked by nextOf) -/
namespace FR
open PySem
open PySem.Sem (wp)
/-- an iterator at it over what stands at l, asked by nextOf -/
structure Nx (prog : Program) (w : World) (it l : Addr) (xs : Array Value) (St : Nat → Heap → Prop) : Prop where
  one : ∀ (A : Around) (E Q : Value → Shared → Prop) (s : Shared) (k : Nat) (x : Value), St k s.heap → xs[k]? = some x → (∀ g, St (k + 1) g → Heap.SameBut it s.heap g → Q x { s with heap := g }) → wpAny (model prog w) A (Builtin.SmallTypes.nextOf (.ref it)) Q E s
  fin : ∀ (A : Around) (E Q : Value → Shared → Prop) (s : Shared) (k : Nat), A.handled = none → St k s.heap → xs[k]? = none → (∀ g e, Heap.ExtBut it s.heap g → (∃ o, g.get? e = some o ∧ o.cls = .type "StopIteration") → E (.ref e) { s with heap := g }) →
    wpAny (model prog w) A (Builtin.SmallTypes.nextOf (.ref it)) Q E s
  frame : ∀ k h g b, St k h → Heap.ExtBut b h g → it ≠ b → l ≠ b → St k g
section
variable {prog : Program} {w : World}
theorem nx_tup {it l : Addr} {xs : Array Value} (ne : l ≠ it) : Nx prog w it l xs (fun k h => h.IsTupleIter it l k ∧ h.IsTuple l xs) where
  one := fun A E Q s k x st e q => RZ.nextOf_tuple_item st.1 st.2 e fun g z sb => q g ⟨z, st.2.extBut sb.extBut ne⟩ sb
  fin := fun A E Q s k hh st e q => RZ.nextOf_tuple_end hh st.1 st.2 e q
  frame := fun k h g b st x n1 n2 => ⟨st.1.extBut x n1, st.2.extBut x n2⟩
theorem nx_lst {it l : Addr} {xs : Array Value} (ne : l ≠ it) : Nx prog w it l xs (fun k h => h.IsListIter it l k ∧ h.IsList l xs) where
  one := fun A E Q s k x st e q => wpAny_nextOf_list_item st.1 st.2 e fun g z sb => q g ⟨z, st.2.extBut sb.extBut ne⟩ sb
  fin := fun A E Q s k hh st e q => wpAny_nextOf_list_end hh st.1 st.2 e q
  frame := fun k h g b st x n1 n2 => ⟨st.1.extBut x n1, st.2.extBut x n2⟩
/-- a zip that stands between two turns -/
structure ZAt (h : Heap) (z TI TO i1 i2 : Addr) (f : Value) (a b : Value) : Prop where
  zp : IsZip h z TI TO f
  ti : IsPair h TI (.ref i1) (.ref i2)
  to : IsPair h TO a b
variable {A : Around} {E : Value → Shared → Prop} {s : Shared} {z TI TO i1 i2 l1 l2 : Addr} {k1 k2 : Nat} {xs ys : Array Value} {x y a b : Value} {S1 S2 : Nat → Heap → Prop}
theorem zg_item {Q : Value → Shared → Prop} (D : ZipApart z TI TO i1 i2 l1 l2) (N1 : Nx prog w i1 l1 xs S1) (N2 : Nx prog w i2 l2 ys S2) (Z : ZAt s.heap z TI TO i1 i2 .none a b)
    (h1 : S1 k1 s.heap) (h2 : S2 k2 s.heap) (ex : xs[k1]? = some x) (ey : ys[k2]? = some y) (big : z < s.heap.objs.size ∧ l1 < s.heap.objs.size ∧ l2 < s.heap.objs.size ∧ i1 < s.heap.objs.size ∧ i2 < s.heap.objs.size)
    (q : ∀ g, ZAt g z TI TO i1 i2 (rawInt s.heap.objs.size) x y → S1 (k1 + 1) g → S2 (k2 + 1) g → IsPair g s.heap.objs.size x y →
      (∀ c o, c ≠ z → c ≠ TO → c ≠ i1 → c ≠ i2 → s.heap.get? c = some o → g.get? c = some o) → Q (.ref s.heap.objs.size) { s with heap := g }) :
    wpAny (model prog w) A (Builtin.«zip.__next__» ⟨[.ref z], []⟩) (fun fin s' => ∃ v, fin = .done (.ret v) ∧ Q v s') E s := by
  obtain ⟨zp, ti, to⟩ := Z
  obtain ⟨bz, bl1, bl2, bi1, bi2⟩ := big
  show wpAny _ _ (field (.ref z) 2 >>= _) _ _ _; refine wpAny_bind (wpAny_field zp rfl (x := .bool false) rfl ?_)
  show wpAny _ _ (field (.ref z) 3 >>= _) _ _ _; refine wpAny_bind (wpAny_field zp rfl (x := .ref TI) rfl ?_)
  refine wpAny_bind (wpAny_seqItems ti rfl ?_)
  show wpAny _ _ (Builtin.SmallTypes.ownedTupleIsFree (.ref z) >>= _) _ _ _; refine wpAny_bind ?_
  unfold Builtin.SmallTypes.ownedTupleIsFree; refine wpAny_bind (wpAny_field zp rfl (x := .none) rfl (wpAny_pure ?_))
  simp only [if_true]; refine wpAny_bind (wpAny_rule ?_)
  refine wpAny_bind (wpAny_field zp rfl (x := .ref TO) rfl ?_); refine wpAny_bind (wpAny_setField_rec zp (by simp) fun g1 z1 s1 => ?_)
  have z1 : IsZip g1 z TI TO .ellipsis := z1
  refine wpAny_bind ?_; simp only [List.zipIdx_cons, List.zipIdx_nil, List.forIn_cons, List.forIn_nil]
  refine wpAny_bind (wpAny_bind (wpAny_onRaise ?_)); show wpAny _ _ (Builtin.SmallTypes.nextOf (.ref i1) >>= _) _ _ _
  refine wpAny_bind (N1.one _ _ _ _ k1 x (N1.frame _ _ _ _ h1 s1.extBut D.i1z D.l1z) ex fun g2 t1 s2 => wpAny_pure ?_)
  have to2 : IsPair g2 TO a b := s2.extBut _ _ D.TOi1 (s1.extBut _ _ D.TOz to)
  have r2 := N2.frame _ _ _ _ (N2.frame _ _ _ _ h2 s1.extBut D.i2z D.l2z) s2.extBut D.i12.symm D.l2i1
  refine wpAny_bind (wpAny_seqItems to2 rfl ?_); refine wpAny_bind (wpAny_updateSeq_pair to2 fun g3 to3 s3 => ?_)
  have to3 : IsPair g3 TO x b := to3
  refine wpAny_bind (wpAny_letGo (wpAny_pure ?_)); refine wpAny_bind (wpAny_bind (wpAny_onRaise ?_))
  show wpAny _ _ (Builtin.SmallTypes.nextOf (.ref i2) >>= _) _ _ _
  refine wpAny_bind (N2.one _ _ _ _ k2 y (N2.frame _ _ _ _ r2 s3.extBut D.TOi2.symm D.l2TO) ey fun g4 t2 s4 => wpAny_pure ?_)
  have to4 : IsPair g4 TO x b := s4.extBut _ _ D.TOi2 to3
  refine wpAny_bind (wpAny_seqItems to4 rfl ?_); refine wpAny_bind (wpAny_updateSeq_pair to4 fun g5 to5 s5 => ?_)
  have to5 : IsPair g5 TO x y := to5
  refine wpAny_bind (wpAny_letGo (wpAny_pure (wpAny_pure ?_))); refine wpAny_bind (wpAny_seqItems to5 rfl ?_); refine wpAny_bind (wpAny_newTuple ?_)
  have sz : g5.objs.size = s.heap.objs.size := by rw [s5.1, s4.1, s3.1, s2.1, s1.1]
  have z5 : IsZip g5 z TI TO .ellipsis := s5.extBut _ _ D.TOz.symm (s4.extBut _ _ D.i2z.symm (s3.extBut _ _ D.TOz.symm (s2.extBut _ _ D.i1z.symm z1)))
  have k5 : ∀ c o, c ≠ z → c ≠ TO → c ≠ i1 → c ≠ i2 → s.heap.get? c = some o → g5.get? c = some o := fun c o n1 n2 n3 n4 e =>
    s5.extBut _ _ n2 (s4.extBut _ _ n4 (s3.extBut _ _ n2 (s2.extBut _ _ n3 (s1.extBut _ _ n1 e))))
  have u1 : S1 (k1 + 1) g5 := N1.frame _ _ _ _ (N1.frame _ _ _ _ (N1.frame _ _ _ _ t1 s3.extBut D.TOi1.symm D.l1TO) s4.extBut D.i12 D.l1i2) s5.extBut D.TOi1.symm D.l1TO
  have u2 : S2 (k2 + 1) g5 := N2.frame _ _ _ _ t2 s5.extBut D.TOi2.symm D.l2TO
  show wpAny _ _ (Builtin.SmallTypes.ownedTupleHandOut (.ref z) (.ref g5.objs.size) >>= _) _ _ _
  refine wpAny_bind ?_; unfold Builtin.SmallTypes.ownedTupleHandOut
  have z6 : IsZip (g5.push { cls := .type "tuple", data := .seq #[x, y] }) z TI TO .ellipsis := Heap.get?_push_of_some _ z5
  refine wpAny_bind (wpAny_setField_rec z6 (by simp) fun g7 z7 s7 => ?_)
  have z7 : IsZip g7 z TI TO (rawInt g5.objs.size) := z7
  refine wpAny_setField_rec z7 (by simp) fun g8 z8 s8 => ?_
  have z8 : IsZip g8 z TI TO (rawInt g5.objs.size) := z8
  have up : ∀ c o, c ≠ z → g5.get? c = some o → g8.get? c = some o := fun c o n e => s8.extBut _ _ n (s7.extBut _ _ n (Heap.get?_push_of_some _ e))
  have zz : g5.objs.size ≠ z := Nat.ne_of_gt (by rw [sz]; exact bz)
  have m1 : i1 ≠ g5.objs.size := Nat.ne_of_lt (by rw [sz]; exact bi1)
  have m2 : i2 ≠ g5.objs.size := Nat.ne_of_lt (by rw [sz]; exact bi2)
  have m3 : l1 ≠ g5.objs.size := Nat.ne_of_lt (by rw [sz]; exact bl1)
  have m4 : l2 ≠ g5.objs.size := Nat.ne_of_lt (by rw [sz]; exact bl2)
  have hT : IsPair g8 g5.objs.size x y := s8.extBut _ _ zz (s7.extBut _ _ zz (Heap.get?_push_size _ rfl))
  have p6 : Heap.ExtBut g5.objs.size g5 (g5.push { cls := .type "tuple", data := .seq #[x, y] }) := fun c o _ e => Heap.get?_push_of_some _ e
  have fr1 : S1 (k1 + 1) g8 := N1.frame _ _ _ _ (N1.frame _ _ _ _ (N1.frame _ _ _ _ u1 p6 m1 m3) s7.extBut D.i1z D.l1z) s8.extBut D.i1z D.l1z
  have fr2 : S2 (k2 + 1) g8 := N2.frame _ _ _ _ (N2.frame _ _ _ _ (N2.frame _ _ _ _ u2 p6 m2 m4) s7.extBut D.i2z D.l2z) s8.extBut D.i2z D.l2z
  rw [sz] at z8 hT
  refine wpAny_pure ⟨_, rfl, ?_⟩
  show Q (.ref g5.objs.size) _
  rw [sz]
  have ti5 : IsPair g5 TI (.ref i1) (.ref i2) := k5 _ _ D.TIz D.TITO D.TIi1 D.TIi2 ti
  exact q g8 ⟨z8, up _ _ D.TIz ti5, up _ _ D.TOz to5⟩ fr1 fr2 hT fun c o n1 n2 n3 n4 e => up c o n1 (k5 c o n1 n2 n3 n4 e)
theorem zg_end {Q : Fin → Shared → Prop} (hh : A.handled = none) (D : ZipApart z TI TO i1 i2 l1 l2) (N1 : Nx prog w i1 l1 xs S1) (N2 : Nx prog w i2 l2 ys S2) (Z : ZAt s.heap z TI TO i1 i2 .none a b)
    (h1 : S1 k1 s.heap) (h2 : S2 k2 s.heap) (en : xs[k1]? = none ∨ ys[k2]? = none)
    (q : ∀ g e, (∀ c o, c ≠ z → c ≠ TO → c ≠ i1 → c ≠ i2 → s.heap.get? c = some o → g.get? c = some o) → (∃ o, g.get? e = some o ∧ o.cls = .type "StopIteration") → E (.ref e) { s with heap := g }) :
    wpAny (model prog w) A (Builtin.«zip.__next__» ⟨[.ref z], []⟩) Q E s := by
  obtain ⟨zp, ti, to⟩ := Z
  show wpAny _ _ (field (.ref z) 2 >>= _) _ _ _; refine wpAny_bind (wpAny_field zp rfl (x := .bool false) rfl ?_)
  show wpAny _ _ (field (.ref z) 3 >>= _) _ _ _; refine wpAny_bind (wpAny_field zp rfl (x := .ref TI) rfl ?_)
  refine wpAny_bind (wpAny_seqItems ti rfl ?_)
  show wpAny _ _ (Builtin.SmallTypes.ownedTupleIsFree (.ref z) >>= _) _ _ _; refine wpAny_bind ?_
  unfold Builtin.SmallTypes.ownedTupleIsFree; refine wpAny_bind (wpAny_field zp rfl (x := .none) rfl (wpAny_pure ?_))
  simp only [if_true]; refine wpAny_bind (wpAny_rule ?_)
  refine wpAny_bind (wpAny_field zp rfl (x := .ref TO) rfl ?_); refine wpAny_bind (wpAny_setField_rec zp (by simp) fun g1 z1 s1 => ?_)
  have z1 : IsZip g1 z TI TO .ellipsis := z1
  refine wpAny_bind ?_; simp only [List.zipIdx_cons, List.zipIdx_nil, List.forIn_cons, List.forIn_nil]
  refine wpAny_bind (wpAny_bind (wpAny_onRaise ?_)); show wpAny _ _ (Builtin.SmallTypes.nextOf (.ref i1) >>= _) _ _ _
  have f1 := N1.frame _ _ _ _ h1 s1.extBut D.i1z D.l1z
  cases ex : xs[k1]? with
  | none =>
    refine wpAny_bind (N1.fin _ _ _ _ k1 hh f1 ex fun g2 e s2 he => ?_)
    obtain ⟨oe, e1, e2⟩ := he
    have z2 : IsZip g2 z TI TO .ellipsis := s2 _ _ D.i1z.symm z1
    have ne : e ≠ z := fun h => by rw [h, z2] at e1; cases e1; simp at e2
    refine wpAny_setField_rec z2 (by simp) fun g3 _ s3 => q g3 e (fun c o n1 _ n3 _ h => s3.extBut _ _ n1 (s2 _ _ n3 (s1.extBut _ _ n1 h))) ⟨oe, s3.extBut _ _ ne e1, e2⟩
  | some x =>
    have ey : ys[k2]? = none := by rcases en with h | h; rw [ex] at h; cases h; exact h
    refine wpAny_bind (N1.one _ _ _ _ k1 x f1 ex fun g2 t1 s2 => wpAny_pure ?_)
    have to2 : IsPair g2 TO a b := s2.extBut _ _ D.TOi1 (s1.extBut _ _ D.TOz to)
    have r2 := N2.frame _ _ _ _ (N2.frame _ _ _ _ h2 s1.extBut D.i2z D.l2z) s2.extBut D.i12.symm D.l2i1
    refine wpAny_bind (wpAny_seqItems to2 rfl ?_); refine wpAny_bind (wpAny_updateSeq_pair to2 fun g3 to3 s3 => ?_)
    refine wpAny_bind (wpAny_letGo (wpAny_pure ?_)); refine wpAny_bind (wpAny_bind (wpAny_onRaise ?_))
    show wpAny _ _ (Builtin.SmallTypes.nextOf (.ref i2) >>= _) _ _ _
    refine wpAny_bind (N2.fin _ _ _ _ k2 hh (N2.frame _ _ _ _ r2 s3.extBut D.TOi2.symm D.l2TO) ey fun g4 e s4 he => ?_)
    obtain ⟨oe, e1, e2⟩ := he
    have z4 : IsZip g4 z TI TO .ellipsis := s4 _ _ D.i2z.symm (s3.extBut _ _ D.TOz.symm (s2.extBut _ _ D.i1z.symm z1))
    have ne : e ≠ z := fun h => by rw [h, z4] at e1; cases e1; simp at e2
    refine wpAny_setField_rec z4 (by simp) fun g5 _ s5 => q g5 e (fun c o n1 n2 n3 n4 h => s5.extBut _ _ n1 (s4 _ _ n4 (s3.extBut _ _ n2 (s2.extBut _ _ n3 (s1.extBut _ _ n1 h))))) ⟨oe, s5.extBut _ _ ne e1, e2⟩
theorem zg_nx {Q : Option Value → Shared → Prop} (D : ZipApart z TI TO i1 i2 l1 l2) (N1 : Nx prog w i1 l1 xs S1) (N2 : Nx prog w i2 l2 ys S2) (Z : ZAt s.heap z TI TO i1 i2 .none a b)
    (h1 : S1 k1 s.heap) (h2 : S2 k2 s.heap) (ex : xs[k1]? = some x) (ey : ys[k2]? = some y) (big : z < s.heap.objs.size ∧ l1 < s.heap.objs.size ∧ l2 < s.heap.objs.size ∧ i1 < s.heap.objs.size ∧ i2 < s.heap.objs.size)
    (q : ∀ g, ZAt g z TI TO i1 i2 (rawInt s.heap.objs.size) x y → S1 (k1 + 1) g → S2 (k2 + 1) g → IsPair g s.heap.objs.size x y →
      (∀ c o, c ≠ z → c ≠ TO → c ≠ i1 → c ≠ i2 → s.heap.get? c = some o → g.get? c = some o) → Q (some (.ref s.heap.objs.size)) { s with heap := g }) :
    wpAny (model prog w) A (pyNext (.ref z)) Q E s := by
  have hT : s.TypeIs (.ref z) "zip" := ⟨_, Z.zp, rfl⟩
  unfold pyNext
  refine wpAny_bind (wpAny_attempt (wpAny_callSpecial?_slot (name := Str.ofString "__next__") hT F.slot_zip_next ?_))
  exact wpAny_call_entry F.slot_zip_next hT F.entry_zip_next (zg_item D N1 N2 Z h1 h2 ex ey big fun g c1 c2 c3 c4 c5 => wpAny_pure (q g c1 c2 c3 c4 c5)) (F.args_zip_next_1 _)
theorem zg_stop {Q : Option Value → Shared → Prop} (hh : A.handled = none) (D : ZipApart z TI TO i1 i2 l1 l2) (N1 : Nx prog w i1 l1 xs S1) (N2 : Nx prog w i2 l2 ys S2) (Z : ZAt s.heap z TI TO i1 i2 .none a b)
    (h1 : S1 k1 s.heap) (h2 : S2 k2 s.heap) (en : xs[k1]? = none ∨ ys[k2]? = none)
    (q : ∀ g, (∀ c o, c ≠ z → c ≠ TO → c ≠ i1 → c ≠ i2 → s.heap.get? c = some o → g.get? c = some o) → Q none { s with heap := g }) : wpAny (model prog w) A (pyNext (.ref z)) Q E s := by
  have hT : s.TypeIs (.ref z) "zip" := ⟨_, Z.zp, rfl⟩
  unfold pyNext
  refine wpAny_bind (wpAny_attempt (wpAny_callSpecial?_slot (name := Str.ofString "__next__") hT F.slot_zip_next ?_))
  refine wpAny_call_entry F.slot_zip_next hT F.entry_zip_next (zg_end hh D N1 N2 Z h1 h2 en fun g e hk he => ?_) (F.args_zip_next_1 _)
  obtain ⟨o, ho, hc⟩ := he
  refine wpAny_bind (wpAny_isInstance (T := "StopIteration") (b := true) ⟨o, ho, hc⟩ isSubtype_stop ?_)
  exact wpAny_pure (q _ hk)
end
abbrev zm1 (h : Heap) (a : Addr) : Heap := h.push { cls := .type "tuple_iterator", data := .fields #[.ref a, .int 0 0] }
abbrev zm2 (h : Heap) (a b : Addr) : Heap := (zm1 h a).push { cls := .type "list_iterator", data := .fields #[.ref b, .int 0 0] }
abbrev zm3 (h : Heap) (a b : Addr) : Heap := (zm2 h a b).push { cls := .type "tuple", data := .seq #[.ref h.objs.size, .ref (zm1 h a).objs.size] }
abbrev zm4 (h : Heap) (a b : Addr) : Heap := (zm3 h a b).push { cls := .type "tuple", data := .seq #[.none, .none] }
abbrev zm5 (h : Heap) (a b : Addr) : Heap := (zm4 h a b).push { cls := .type "zip", data := .fields #[.none, .bool false, .bool false, .ref (zm2 h a b).objs.size, .ref (zm3 h a b).objs.size] }
theorem meets_zm (a b : Addr) (xs ys : Array Value) :
    Meets (Builtin.«zip.__new__» ⟨[.type "zip", .ref a, .ref b], []⟩) (fun _ R s => s.heap.IsTuple a xs ∧ s.heap.IsList b ys ∧ R (.ok (.ret (.ref (zm4 s.heap a b).objs.size))) { s with heap := zm5 s.heap a b }) :=
  .of_wp fun prog w A R s h => by
    obtain ⟨hp, g, d, tk, os⟩ := s; obtain ⟨m1, m2, h⟩ := h
    have hsub := sub_zip
    have hA : Heap.IsTuple (Shared.heap ⟨hp, g, d, tk, os⟩) a xs := m1
    have hB : Heap.IsList (Shared.heap ⟨hp.push { cls := .type "tuple_iterator", data := .fields #[.ref a, .int 0 0] }, g, d, tk, os⟩) b ys := Heap.IsList.push m2 _
    wp_walk using wpAny_pyIter_tuple hA, wpAny_pyIter_list hB
    exact ⟨_, rfl, h⟩
section
variable {prog : Program} {w : World} {A : Around} {E : Value → Shared → Prop} {s : Shared}
theorem call_zm {a b : Addr} {xs ys : Array Value} {Q : Value → Shared → Prop} (m1 : s.heap.IsTuple a xs) (m2 : s.heap.IsList b ys)
    (h : ∀ g, ZAt g (s.heap.objs.size + 4) (s.heap.objs.size + 2) (s.heap.objs.size + 3) s.heap.objs.size (s.heap.objs.size + 1) .none .none .none → g.IsTupleIter s.heap.objs.size a 0 → g.IsListIter (s.heap.objs.size + 1) b 0 →
      (∀ c o, s.heap.get? c = some o → g.get? c = some o) → Q (.ref (s.heap.objs.size + 4)) { s with heap := g }) :
    wpAny (model prog w) A (call (.type "zip") [.ref a, .ref b]) Q E s := by
  refine callType_new F.called_zip (by decide) (F.typeCall_zip_2 _ _) (F.newCall_zip_2 _ _) (fun obj => F.args_object_init_3 obj _ _) F.entry_zip_new (meets_zm a b xs ys) ⟨m1, m2, ?_⟩
  have n1 : (zm1 s.heap a).objs.size = s.heap.objs.size + 1 := Heap.size_push ..
  have n2 : (zm2 s.heap a b).objs.size = s.heap.objs.size + 2 := by rw [Heap.size_push, n1]
  have n3 : (zm3 s.heap a b).objs.size = s.heap.objs.size + 3 := by rw [Heap.size_push, n2]
  have n4 : (zm4 s.heap a b).objs.size = s.heap.objs.size + 4 := by rw [Heap.size_push, n3]
  have e5 : (zm5 s.heap a b).get? (zm4 s.heap a b).objs.size = some _ := Heap.get?_push_size _ rfl
  have e4 : (zm5 s.heap a b).get? (zm3 s.heap a b).objs.size = some _ := Heap.get?_push_of_some _ (Heap.get?_push_size _ rfl)
  have e3 : (zm5 s.heap a b).get? (zm2 s.heap a b).objs.size = some _ := Heap.get?_push_of_some _ (Heap.get?_push_of_some _ (Heap.get?_push_size _ rfl))
  have e2 : (zm5 s.heap a b).get? (zm1 s.heap a).objs.size = some _ := Heap.get?_push_of_some _ (Heap.get?_push_of_some _ (Heap.get?_push_of_some _ (Heap.get?_push_size _ rfl)))
  have e1 : (zm5 s.heap a b).get? s.heap.objs.size = some _ := Heap.get?_push_of_some _ (Heap.get?_push_of_some _ (Heap.get?_push_of_some _ (Heap.get?_push_of_some _ (Heap.get?_push_size _ rfl))))
  show _ ∧ _
  rw [n2, n3, n4] at e5
  rw [n1, n2] at e3
  rw [n3] at e4
  rw [n1] at e2
  rw [n4]
  exact ⟨⟨_, e5, rfl⟩, h _ ⟨e5, e3, e4⟩ ⟨_, e1, rfl, rfl⟩ ⟨_, e2, rfl, rfl⟩ fun c o e => Heap.get?_push_of_some _ (Heap.get?_push_of_some _ (Heap.get?_push_of_some _ (Heap.get?_push_of_some _ (Heap.get?_push_of_some _ e))))⟩
end
open PySem.Spec PyProof.Rows L2
/-- zip of the tuple at a and the list at b -/
def Itm (K : PySem.W.Frag) (a b : Addr) : It :=
  ⟨fun i H => ∃ (xs ys : List V) (x y : V), SqT K H a xs ∧ SqL K H b ys ∧ xs[i]? = some x ∧ ys[i]? = some y,
    fun i H v H' => ∃ T x y, v = .ref T ∧ H T = none ∧ H' = upd H T (.tup [x, y]) ∧ (∀ xs, SqT K H a xs → xs[i]? = some x) ∧ ∀ ys, SqL K H b ys → ys[i]? = some y,
    fun i H => ∃ xs ys : List V, SqT K H a xs ∧ SqL K H b ys ∧ (xs.length ≤ i ∨ ys.length ≤ i)⟩
theorem turn_zm {P : Program} {w : World} {K : PySem.W.Frag} {elts : List Expr} {kk : Nat} {tpos : Pos} {a b z TI TO i1 i2 : Addr} (D : ZipApart z TI TO i1 i2 a b) :
    Turn P w K (.Tuple elts kk tpos) (Itm K a b) [z, TI, TO, i1, i2] z (fun i h => (∃ x y, ZAt h z TI TO i1 i2 .none x y) ∧ h.IsTupleIter i1 a i ∧ h.IsListIter i2 b i) where
  mem := by simp
  obj := fun i h st c hc => by
    obtain ⟨⟨x, y, zp, ti, to⟩, ⟨o1, e1, _, d1⟩, ⟨o2, e2, _, d2⟩⟩ := st
    rcases (by simpa using hc : c = z ∨ c = TI ∨ c = TO ∨ c = i1 ∨ c = i2) with r | r | r | r | r
    · rw [r]; exact ⟨_, zp, fun v q => nomatch q⟩
    · rw [r]; exact ⟨_, ti, fun v q => nomatch q⟩
    · rw [r]; exact ⟨_, to, fun v q => nomatch q⟩
    · rw [r]; exact ⟨o1, e1, fun v q => by rw [d1] at q; cases q⟩
    · rw [r]; exact ⟨o2, e2, fun v q => by rw [d2] at q; cases q⟩
  keep := fun i h g st k => by
    obtain ⟨⟨x, y, zp, ti, to⟩, h1, h2⟩ := st
    exact ⟨⟨x, y, k z (by simp) _ zp, k TI (by simp) _ ti, k TO (by simp) _ to⟩, h1.at fun o q => k i1 (by simp) o q, h2.at fun o q => k i2 (by simp) o q⟩
  item := by
    intro X hP hw hK hc i pins s σ H E I hf st hg
    subst hP hw hK
    obtain ⟨⟨x0, y0, Z⟩, h1, h2⟩ := st
    obtain ⟨xs, ys, x, y, sx, sy, ex, ey⟩ := hg
    obtain ⟨its, rv, p, _⟩ := I.tuple sx
    obtain ⟨its2, rv2, p2, _⟩ := I.list sy
    obtain ⟨u, hu, ru⟩ := rv.get ex
    obtain ⟨u2, hu2, ru2⟩ := rv2.get ey
    have bz : z < s.heap.objs.size := Heap.lt_size Z.zp
    have b1 : i1 < s.heap.objs.size := by obtain ⟨_, e, _⟩ := h1; exact Heap.lt_size e
    have b2 : i2 < s.heap.objs.size := by obtain ⟨_, e, _⟩ := h2; exact Heap.lt_size e
    have ba : a < s.heap.objs.size := by obtain ⟨_, e, _⟩ := id p; exact Heap.lt_size e
    have hin : ∀ c ∈ [z, TI, TO, i1, i2], c < s.heap.objs.size := fun c hcm => by
      rcases (by simpa using hcm : c = z ∨ c = TI ∨ c = TO ∨ c = i1 ∨ c = i2) with r | r | r | r | r
      · rw [r]; exact bz
      · rw [r]; exact Heap.lt_size Z.ti
      · rw [r]; exact Heap.lt_size Z.to
      · rw [r]; exact b1
      · rw [r]; exact b2
    refine zg_nx D (nx_tup D.l1i1) (nx_lst D.l2i2) Z ⟨h1, p⟩ ⟨h2, p2.isList⟩ (x := u) (y := u2) (by simpa using hu) (by simpa using hu2) ⟨bz, ba, p2.lt, b1, b2⟩ fun g Z' t1 t2 hT hk => ?_
    refine ⟨_, rfl, wpAny_letOwnedTupleGo_zip (s := { s with heap := g }) Z'.zp fun g2 z2 sb => ?_⟩
    have hT2 : IsPair g2 s.heap.objs.size u u2 := (sb.2 _ (Nat.ne_of_gt bz)).trans hT
    have new : ObjOk X.prog X.w (upd H s.heap.objs.size (.tup [x, y])) g2 s.heap.objs.size (.tup [x, y]) := ⟨by show 2 ≤ sizeLine; decide, [u, u2], .cons ru (.cons ru2 .nil), ⟨_, hT2, rfl, _, rfl⟩⟩
    have old : ∀ c o, c ∉ [z, TI, TO, i1, i2] → s.heap.get? c = some o → g2.get? c = some o := fun c o hb q => by
      simp only [List.mem_cons, List.not_mem_nil, or_false, not_or] at hb
      exact (sb.2 c hb.1).trans (hk c o hb.1 hb.2.2.1 hb.2.2.2.1 hb.2.2.2.2 q)
    refine ⟨.ref s.heap.objs.size, _, I.turnedNew (t' := s.toks) (ch := [z, TI, TO, i1, i2]) old hf (Nat.le_refl _) new, rfl, ⟨_, x, y, rfl, I.hok.fresh (Nat.le_refl _), rfl, fun l hl => ?_, fun l hl => ?_⟩, ⟨⟨u, u2, z2, (sb.2 _ D.TIz).trans Z'.ti, (sb.2 _ D.TOz).trans Z'.to⟩, ?_, ?_⟩, fun c hcm => ?_⟩
    · rw [I.tuple_inj hl sx]; exact ex
    · rw [I.list_inj hl sy]; exact ey
    · exact t1.1.at fun o q => (sb.2 _ D.i1z).trans q
    · exact t2.1.at fun o q => (sb.2 _ D.i2z).trans q
    · rw [upd_ne (Nat.ne_of_lt (hin c hcm))]
      exact (hf c hcm).1
  done := by
    intro X hP hw hK hc i pins s σ H E I hf st hg
    subst hP hw hK
    obtain ⟨⟨x0, y0, Z⟩, h1, h2⟩ := st
    obtain ⟨xs, ys, sx, sy, en⟩ := hg
    obtain ⟨its, rv, p, _⟩ := I.tuple sx
    obtain ⟨its2, rv2, p2, _⟩ := I.list sy
    have l1 := rv.length
    have l2 := rv2.length
    have he : its.toArray[i]? = none ∨ its2.toArray[i]? = none := en.imp (fun q => by simp; omega) (fun q => by simp; omega)
    refine zg_stop (I.ok.hd hc) D (nx_tup D.l1i1) (nx_lst D.l2i2) Z ⟨h1, p⟩ ⟨h2, p2.isList⟩ he fun g hk => ⟨rfl, I.turnedL (t' := s.toks) (ch := [z, TI, TO, i1, i2]) (fun c o hb q => ?_) hf⟩
    simp only [List.mem_cons, List.not_mem_nil, or_false, not_or] at hb
    exact hk c o hb.1 hb.2.2.1 hb.2.2.2.1 hb.2.2.2.2 q
  self := fun A i s Q E st h => by
    obtain ⟨⟨_, _, Z⟩, _⟩ := st
    exact wpAny_pyIter_zip Z.zp h
def iZm (K : PySem.W.Frag) (ta : TA) : L2.TI := fun σ H R => ta σ H fun vs H1 => ∃ a b xs ys, vs = [.ref a, .ref b] ∧ SqT K H1 a xs ∧ SqL K H1 b ys ∧ R (Itm K a b) H1
theorem pi_zm {X : Cx} {e e2 : Expr} {ta : TA} {p pos tpos : Pos} {elts : List Expr} {kk : Nat} (hg : Gl X "zip") (hm : X.mg "zip" = none) (ha : PA X [e, e2] ta)
    (hs : starEach [e, e2] X.env = (false, eval e X.env) :: starEach [e2] X.env := by rfl) (hpl : (backTo pos (starEach [e2] X.env)).any (·.1) = false := by rfl) : PI X (.Tuple elts kk tpos) (.Call (.Name "zip" p) [e, e2] [] pos) (iZm X.K ta) := by
  refine ⟨fun pins s σ H R I h => Call_ (ld_blt I hg hm PyProof.Rows.boot_zip (PyProof.Rows.callWith_type1 (thn (ha.run pos pins s σ H _ I h) fun us s1 hh => ?_) hs hpl))⟩
  obtain ⟨vs, H1, I1, r1, a, b, xs, ys, rfl, sx, sy, q⟩ := hh
  match us, r1 with
  | [_, _], .cons r (.cons r' .nil) =>
    cases r
    cases r'
    obtain ⟨its, rv, p1, _⟩ := I1.tuple sx
    obtain ⟨its2, rv2, p2, _⟩ := I1.list sy
    have la : a < s1.heap.objs.size := by obtain ⟨_, e, _⟩ := id p1; exact Heap.lt_size e
    refine call_zm (show s1.heap.IsTuple a its.toArray from p1) p2.isList fun g Z t1 t2 hk => wpAny_pyIter_zip Z.zp ?_
    have I2 : Inv X pins σ H1 { s1 with heap := g } := I1.kept (t' := s1.toks) hk
    refine ⟨s1.heap.objs.size + 4, [s1.heap.objs.size + 4, s1.heap.objs.size + 2, s1.heap.objs.size + 3, s1.heap.objs.size, s1.heap.objs.size + 1], _, _, H1, rfl, I2, turn_zm (PySem.W.ktu_apart s1.heap.objs.size a b la p2.lt), ⟨⟨_, _, Z⟩, t1, t2⟩, fun c hcm => ?_, q⟩
    have hle : s1.heap.objs.size ≤ c := by
      simp only [List.mem_cons, List.not_mem_nil, or_false] at hcm
      rcases hcm with r | r | r | r | r
      · rw [r]; exact Nat.le_add_right _ _
      · rw [r]; exact Nat.le_add_right _ _
      · rw [r]; exact Nat.le_add_right _ _
      · rw [r]; exact Nat.le_refl _
      · rw [r]; exact Nat.le_add_right _ _
    exact I1.fpOk hle (I1.hok.fresh hle)
section
variable {K : PySem.W.Frag} {a b : Addr} {xs ys : List V}
theorem walk_zm {n : Nat} (h1 : xs.length = n) (h2 : ys.length = n) : Walk (Itm K a b) n (fun H => SqT K H a xs ∧ SqL K H b ys) (YPair (fun i => xs[i]?) (fun i => ys[i]?)) := by
  refine ⟨fun i _ hi q => ⟨xs, ys, xs[i], ys[i], q.1, q.2, by simp [h1, hi], by simp [h2, hi]⟩, fun _ q => ⟨xs, ys, q.1, q.2, by omega⟩, fun i H v H' _ q y => ?_⟩
  obtain ⟨T, x, z, r1, r2, r3, r4, r5⟩ := y
  exact ⟨T, x, z, r1, r2, r3, r4 xs q.1, r5 ys q.2⟩
end
end FR
set_option Elab.async false
set_option linter.all false
set_option maxRecDepth 100000
/-! a, b, *c = a tuple -/
namespace FR
open PySem PySem.Spec PySem.Calls PyProof.Rows L2
section
variable {prog : Program} {w : World} {A : Around} {E : Value → Shared → Prop} {s : Shared}
open PySem.W in
theorem un_star {l : Addr} {items : Array Value} {n i : Nat} {Q : List Value → Shared → Prop} (hl : IsTup s.heap l items) (hh : A.handled = none) (hi : i < n) (hn : n ≤ items.size + 1) (hz : items.size ≤ 16384)
    (q : ∀ (g : Heap) (tk : Nat), (∀ b o, s.heap.get? b = some o → g.get? b = some o) →
      Q (items.toList.take i ++ [.ref g.objs.size] ++ (items.toList.drop i).drop (items.size + 1 - n)) { s with heap := g.push { cls := .type "list", data := .seq ((items.toList.drop i).take (items.size + 1 - n)).toArray }, toks := tk }) : wpAny (model prog w) A (unpackItems (.ref l) n (some i)) Q E s := by
  have bl : l < s.heap.objs.size := by obtain ⟨o, ho, _⟩ := id hl; exact Heap.lt_size ho
  have nl : l ≠ s.heap.objs.size := Nat.ne_of_lt bl
  unfold unpackItems; refine wpAny_bind ?_
  unfold notIterableAtAll; refine wpAny_bind (wpAny_specialOf hl.typeIs slot_tuple_iter.lookup ?_)
  refine wpAny_pure ?_; simp only [Bool.false_eq_true, if_false]
  refine wpAny_bind (wpAny_holding (iter_tuple hl ?_)); refine wpAny_bind (wpAny_holding (draw_tuple nl i 0 _ _ ⟨_, Heap.get?_push_size _ rfl, rfl, rfl⟩ (hl.push _) (by omega) fun g1 t1 s1 => ?_))
  have hl1 : IsTup g1 l items := (hl.push _).extBut s1.extBut nl
  rw [Nat.zero_add] at t1
  obtain ⟨oi, hoi, _⟩ := id t1
  obtain ⟨ol, hol, _⟩ := id hl1
  rw [List.drop_zero]
  have e1 : (items.toList.take i).length = i := by rw [List.length_take, Array.length_toList]; omega
  have e2 : (items.toList.drop i).length = items.size - i := by rw [List.length_drop, Array.length_toList]
  have e3 : (items.toList.drop i).length - (n - 1 - i) = items.size + 1 - n := by rw [e2]; omega
  rw [if_neg (show ¬ ((items.toList.take i).length < i) by omega)]
  have hW := Walks.tuple (prog := prog) (w := w) (A := A.in1) hh s.heap.objs.size l nl items
  refine wpAny_bind (wpAny_holding (kun_collect (s := { s with heap := g1 }) (T := "tuple_iterator") (.inr (.inr (.inr rfl))) hW (fun j u st => st.1.typeIs) (k := i) (by omega) ⟨t1, hl1⟩ (Heap.lt_size hoi) (Heap.lt_size hol) (fun g2 tk hk => ?_) (by rw [sizeLine_eq]; omega)))
  show wpAny _ _ (if (items.toList.drop i).length < n - 1 - i then _ else _) _ _ _; rw [if_neg (by rw [e2]; omega)]
  show wpAny _ _ (newList ((items.toList.drop i).take ((items.toList.drop i).length - (n - 1 - i))) >>= fun d => pure (items.toList.take i ++ [d] ++ (items.toList.drop i).drop ((items.toList.drop i).length - (n - 1 - i)))) _ _ _
  rw [e3]
  have hx : ∀ b o, s.heap.get? b = some o → g2.get? b = some o := fun b o e => hk b o (Nat.ne_of_lt (Heap.lt_size e)) (s1.extBut b o (Nat.ne_of_lt (Heap.lt_size e)) (Heap.get?_push_of_some _ e))
  refine wpAny_bind (wpAny_newList (wpAny_pure (q g2 tk hx)) ?_)
  rw [List.length_take, e2, sizeLine_eq]; omega
end
section
variable {X : Cx} {pos : Pos}
def gUnS (K : PySem.W.Frag) (n i : Nat) (t : TGs) : TG := fun v σ H Q => ∃ a xs, v = .ref a ∧ SqT K H a xs ∧ n ≤ xs.length + 1 ∧ xs.length ≤ 16384 ∧
  NewO (.lst ((xs.drop i).take (xs.length + 1 - n))) (fun d H' => t (xs.take i ++ [d] ++ (xs.drop i).drop (xs.length + 1 - n)) σ H' Q) H
theorem pg_unS {es : List Expr} {k : Nat} {t : TGs} {n i : Nat} (hc : X.calm = true) (h : PGs X es t)
    (hn : (assignEach es X.env).length = n := by rfl) (hst : (assignEach es X.env).findIdx? (·.1) = some i := by rfl) (hi : i < n := by decide) : PG X (.Tuple es k pos) (gUnS X.K n i t) := by
  refine ⟨fun pins s σ H v u Q I r hw => ?_⟩
  obtain ⟨a, xs, rfl, hq, hln, hz, hw⟩ := hw
  cases r
  obtain ⟨its, rv, ht, _⟩ := I.tuple hq
  have el := rv.length
  rw [assign_Tuple]
  refine wpAny_bind (wpAny_standAt ?_)
  unfold unpack
  rw [hn, hst]
  refine wpAny_bind (wpAny_holding (un_star (items := its.toArray) ht (I.ok.hd hc) hi (by simpa [← el] using hln) (by simpa [← el] using hz) fun g tk hk => ?_))
  have esz : its.toArray.size + 1 - n = xs.length + 1 - n := by simp [el]
  rw [esz]
  have rm : Vals ((xs.drop i).take (xs.length + 1 - n)) ((its.drop i).take (xs.length + 1 - n)) := (rv.drop i).take _
  have sm : ((xs.drop i).take (xs.length + 1 - n)).length ≤ sizeLine := by
    have : ((xs.drop i).take (xs.length + 1 - n)).length ≤ xs.length := by rw [List.length_take, List.length_drop]; omega
    exact Nat.le_trans this (Nat.le_trans hz (by rw [sizeLine_eq]; omega))
  have I0 : Inv X pins σ H { s with heap := g, toks := tk } := I.kept (t' := tk) hk
  have hf : H g.objs.size = none := I0.hok.fresh (Nat.le_refl _)
  have I1 := I0.laid (t' := tk) (o := .lst ((xs.drop i).take (xs.length + 1 - n))) (fun b o e => Heap.get?_push_of_some _ e) (Nat.le_refl _) ⟨sm, (its.drop i).take (xs.length + 1 - n), 0, rm, by simpa using Heap.get?_push_size _ rfl⟩
  exact h.run pins _ σ _ _ _ Q I1 (((rv.take i).append (.cons (show RelV (.ref g.objs.size) (.ref g.objs.size) from rfl) .nil)).append ((rv.drop i).drop _)) (hw.to g.objs.size _ hf (keep_new hf) upd_same)
theorem pgs_star {e : Expr} {p : Pos} {es : List Expr} {t : TG} {u : TGs} (h1 : PG X e t) (h2 : PGs X es u)
    (hs : (assignEach (.Starred e p :: es) X.env).map (·.2) = assign e X.env :: (assignEach es X.env).map (·.2) := by rfl) : PGs X (.Starred e p :: es) (gCons t u) := by
  refine ⟨fun pins s σ H vs us Q I r h => ?_⟩
  obtain ⟨v, vr, rfl, h⟩ := h
  cases r with
  | cons r rr =>
    rw [hs]
    exact assignInOrder_cons (thn (h1.run pins s σ H _ _ _ I r h) fun _ s1 ⟨σ1, H1, I1, q1⟩ => h2.run pins s1 σ1 H1 _ _ Q I1 rr q1)
end
end FR
set_option Elab.async false
set_option linter.all false
set_option maxRecDepth 100000
/-! list(d.values()), list(d.items()) -/
namespace FR
open PySem PySem.Spec PySem.Calls PyProof.Rows L2 L2.DX
open PySem.W (kdl_call kdl_values kdl_vals_eq dil_call DilG)
/-- the view d.values() at p -/
def valuesO (p d : Addr) : HO := .ext fun h => h.IsValuesView p d
theorem valuesO_ok {P : Program} {w : World} {H : Hp} {h : Heap} {p d : Addr} (e : h.get? p = some { cls := .type "dict_values", data := .fields #[.ref d] }) : ObjOk P w H h p (valuesO p d) :=
  ⟨⟨_, e, rfl, rfl⟩, ⟨_, e⟩, fun h1 h2 x k => let ⟨o, ho, r⟩ := x; ⟨o, k o ho, r⟩⟩
theorem KV.seconds {κ : Type} {kvs : List (κ × V)} {vs : List (κ × Value)} (r : KV kvs vs) : Vals (kvs.map (·.2)) (vs.map (·.2)) := by
  unfold KV at r
  induction r with
  | nil => exact .nil
  | cons h t ih => exact .cons h.2 ih
section
variable {X : Cx}
def rValsK : V → List V → Hp → VK → Prop := fun x xs H Q => ∃ (a : Addr) (kvs : List (L2.Key × V)), x = .ref a ∧ xs = [] ∧ H a = some (.dK kvs) ∧ ∀ p, H p = none → Q (.ref p) (upd H p (valuesO p a))
theorem mt_valuesK : MtR X "dict.values" rValsK := by
  intro pins s σ H x xs v us Q I rx rxs h
  obtain ⟨a, kvs, rfl, rfl, ha, q⟩ := h
  cases rx
  cases rxs
  obtain ⟨z, hd, vs, rel, dd⟩ := dk_of I.hok ha
  have hf : H s.heap.objs.size = none := I.hok.fresh (Nat.le_refl _)
  exact call_meetsIn PySem.F.slot_dict_values dd.typeIs PySem.F.entry_dict_values (PySem.F.args_dict_values_1 _) (meets_dict_values (mixKind X.prog X.w) a hd)
    ⟨⟨vs, dd⟩, ⟨.ref s.heap.objs.size, upd H s.heap.objs.size (valuesO s.heap.objs.size a), I.laid (t' := s.toks) (fun b u e => Heap.get?_push_of_some _ e) (Nat.le_refl _) (valuesO_ok (Heap.get?_push_size _ rfl)), rfl, q _ hf⟩⟩
def rItemsK : V → List V → Hp → VK → Prop := fun x xs H Q => ∃ (a : Addr) (kvs : List (L2.Key × V)), x = .ref a ∧ xs = [] ∧ H a = some (.dK kvs) ∧ ∀ p, H p = none → Q (.ref p) (upd H p (itemsO p a))
theorem mt_itemsK : MtR X "dict.items" rItemsK := by
  intro pins s σ H x xs v us Q I rx rxs h
  obtain ⟨a, kvs, rfl, rfl, ha, q⟩ := h
  cases rx
  cases rxs
  obtain ⟨z, hd, vs, rel, dd⟩ := dk_of I.hok ha
  have hf : H s.heap.objs.size = none := I.hok.fresh (Nat.le_refl _)
  exact call_meetsIn PySem.F.slot_dict_items dd.typeIs PySem.F.entry_dict_items (PySem.F.args_dict_items_1 _) (meets_dict_items (mixKind X.prog X.w) a hd)
    ⟨⟨vs, dd⟩, ⟨.ref s.heap.objs.size, upd H s.heap.objs.size (itemsO s.heap.objs.size a), I.laid (t' := s.toks) (fun b u e => Heap.get?_push_of_some _ e) (Nat.le_refl _) (itemsO_ok (Heap.get?_push_size _ rfl)), rfl, q _ hf⟩⟩
def rLVals : List V → Hp → VK → Prop := fun xs H Q => ∃ (p a : Addr) (kvs : List (L2.Key × V)), xs = [.ref p] ∧ H p = some (valuesO p a) ∧ H a = some (.dK kvs) ∧ NewO (.lst (kvs.map (·.2))) Q H
theorem call_lVals (hc : X.calm = true) : CallR X (.type "list") rLVals := by
  intro pins s σ H xs us Q I r h
  obtain ⟨p, a, kvs, rfl, hp, ha, q⟩ := h
  obtain rfl := Vals.ref1 r
  have view : s.heap.IsValuesView p a := (show ObjOk X.prog X.w H s.heap p (valuesO p a) from I.hok p _ hp).1
  obtain ⟨z, hd, vs, rel, dd⟩ := dk_of I.hok ha
  obtain ⟨ep, hat⟩ := dd.dictAt
  have hl : kvs.length = vs.length := Paired.length rel
  refine kdl_call (kdl_values (knd := mixKind X.prog X.w) (kvs := vs) (ep := ep)) (I.ok.hd hc) ⟨view, hat⟩ (by omega) fun h' tk acc c hk hS hacc => ?_
  have ev : acc.toList = vs.map (·.2) := kdl_vals_eq acc.toList (by rw [Array.length_toList]; exact hacc.1) fun j u hu => hacc.2 j u (by rw [← Array.getElem?_toList]; exact hu)
  have hf : H s.heap.objs.size = none := I.hok.fresh (Nat.le_refl _)
  have ok : ObjOk X.prog X.w (upd H s.heap.objs.size (.lst (kvs.map (·.2)))) h' s.heap.objs.size (.lst (kvs.map (·.2))) := ⟨by rw [List.length_map]; exact z, vs.map (·.2), c, KV.seconds rel, by rw [hS, ← ev]⟩
  exact ⟨.ref s.heap.objs.size, _, I.laid (t' := tk) hk (Nat.le_refl _) ok, rfl, q.to _ _ hf (keep_new hf) upd_same⟩
def rLItems : List V → Hp → VK → Prop := fun xs H Q => ∃ (p a : Addr) (kvs : List (L2.Key × V)), xs = [.ref p] ∧ H p = some (itemsO p a) ∧ H a = some (.dK kvs) ∧
  ∀ (H' : Hp) (l : Addr) (ps : List Addr), H l = none → Keep [] H H' → H' l = some (.lst (ps.map V.ref)) → Paired (fun p kv => H p = none ∧ H' p = some (.tup [kV kv.1, kv.2])) ps kvs → Q (.ref l) H'
theorem paired_of {α β : Type} {R : α → β → Prop} : ∀ {xs : List α} {ys : List β}, xs.length = ys.length → (∀ (j : Nat) (x : α) (y : β), xs[j]? = some x → ys[j]? = some y → R x y) → Paired R xs ys
  | [], [], _, _ => .nil
  | x :: xs, y :: ys, hl, h => .cons (h 0 x y rfl rfl) (paired_of (by simpa using hl) fun j a b ha hb => h (j + 1) a b (by simpa using ha) (by simpa using hb))
  | [], _ :: _, hl, _ => by simp at hl
  | _ :: _, [], hl, _ => by simp at hl
theorem paired_get {α β : Type} {R : α → β → Prop} {xs : List α} {ys : List β} (r : Paired R xs ys) : ∀ {j : Nat} {y : β}, ys[j]? = some y → ∃ x, xs[j]? = some x ∧ R x y := by
  induction r with
  | nil => intro j y h; simp at h
  | @cons a b as bs h t ih =>
    intro j y hy
    cases j with
    | zero => exact ⟨a, rfl, by simp at hy; subst hy; exact h⟩
    | succ j => exact ih (by simpa using hy)
theorem call_lItems (hc : X.calm = true) : CallR X (.type "list") rLItems := by
  intro pins s σ H xs us Q I r h
  obtain ⟨p, a, kvs, rfl, hp, ha, q⟩ := h
  obtain rfl := Vals.ref1 r
  have view : s.heap.IsItemsView p a := (show ObjOk X.prog X.w H s.heap p (itemsO p a) from I.hok p _ hp).1
  obtain ⟨z, hd, vs, rel, dd⟩ := dk_of I.hok ha
  have hl : kvs.length = vs.length := Paired.length rel
  obtain ⟨es, ep, raw, esz, ent⟩ := dd.raw
  refine dil_call (I.ok.hd hc) view raw (by omega) fun h' tk acc c as hk hS hal hG hacc => ?_
  have hf : H s.heap.objs.size = none := I.hok.fresh (Nat.le_refl _)
  have nd : as.Nodup := List.Pairwise.imp (fun h => Nat.ne_of_lt h) hG.rise
  have ok : ObjOk X.prog X.w (upd H s.heap.objs.size (.lst (as.map V.ref))) h' s.heap.objs.size (.lst (as.map V.ref)) :=
    ⟨by rw [List.length_map]; omega, as.map Value.ref, c, vals_maps V.ref Value.ref as fun _ _ => rfl, by rw [hS, ← hacc]⟩
  have I2 := I.laid (t' := tk) hk (Nat.le_refl _) ok
  have pr : ∀ (j : Nat) (b : Addr), as[j]? = some b → ∃ kv u1 u2, kvs[j]? = some kv ∧ RelV (kV kv.1) u1 ∧ RelV kv.2 u2 ∧ h'.get? b = some { cls := .type "tuple", data := .seq #[u1, u2] } := by
    intro j b hj
    obtain ⟨hj', e⟩ := hG.pairs j b hj
    have hlt : j < vs.length := by omega
    have hv : vs[j]? = some vs[j] := List.getElem?_eq_getElem hlt
    obtain ⟨kv, ek, r1, r2⟩ := paired_get rel hv
    obtain ⟨e1, e2⟩ := ent j hj' vs[j].1 vs[j].2 hv
    exact ⟨kv, _, _, ek, by rw [r1]; exact relV_key e1, by rw [e2]; exact r2, e⟩
  obtain ⟨H2, I3, g, qt⟩ := takeT (P := fun b ws => ∃ (j : Nat) (kv : L2.Key × V), as[j]? = some b ∧ kvs[j]? = some kv ∧ ws = [kV kv.1, kv.2]) I as _ I2 nd fun b hb => by
    obtain ⟨j, hj⟩ := List.mem_iff_getElem?.mp hb
    obtain ⟨kv, u1, u2, ek, r1, r2, hg⟩ := pr j b hj
    have hbl : s.heap.objs.size < b := hG.above b hb
    refine ⟨Nat.le_of_lt hbl, by rw [upd_ne (Nat.ne_of_gt hbl)]; exact I.hok.fresh (Nat.le_of_lt hbl), [kV kv.1, kv.2], ⟨j, kv, hj, ek, rfl⟩, fun H3 => ⟨(by rw [sizeLine_eq]; show 2 ≤ 16777216; omega), [u1, u2], .cons r1 (.cons r2 .nil), ⟨_, hg, rfl, 0, rfl⟩⟩⟩
  refine ⟨.ref s.heap.objs.size, H2, I3, rfl, q H2 s.heap.objs.size as hf (fun b o e _ => g b o (by rw [upd_ne (ne_of_none e hf)]; exact e)) (g _ _ upd_same) (paired_of (by omega) fun j b kv hj ek => ?_)⟩
  have hbm := List.mem_of_getElem? hj
  obtain ⟨ws, ⟨i, kv', hi, ek', rfl⟩, hH⟩ := qt b hbm
  have eij : i = j := (List.getElem?_inj (List.getElem?_eq_some_iff.mp hi).1 nd).mp (hi.trans hj.symm)
  subst eij
  rw [ek] at ek'
  cases ek'
  exact ⟨I.hok.fresh (Nat.le_of_lt (hG.above b hbm)), hH⟩
end
end FR
set_option Elab.async false
set_option linter.all false
set_option maxRecDepth 100000
/-! enumerate(text) -/
namespace FR
open PySem PySem.Spec PyProof.Rows L2
/-- the signs of a text, each with its place, in new pairs -/
def IteS (z : Str) : It :=
  ⟨fun i _ => i < z.cps.size, fun i H v H' => ∃ T c, v = .ref T ∧ H T = none ∧ H' = upd H T (.tup [.int (i : Nat), .str ⟨#[c]⟩]) ∧ z.cps[i]? = some c, fun i _ => i = z.cps.size⟩
theorem draws_str {prog : Program} {w : World} {A : Around} (hh : A.handled = none) (it : Addr) (x : Str) (t : Tok) :
    Draws prog w A it [it] x.cps.size (fun i v => ∃ c u, x.cps[i]? = some c ∧ v = .str ⟨#[c]⟩ u) (fun i h => h.IsStrIter it (strIterType x) x t i) := by
  rcases (show strIterType x = "str_ascii_iterator" ∨ strIterType x = "str_iterator" by unfold strIterType; split; exact .inl rfl; exact .inr rfl) with e | e
  · rw [e]; exact Draws.strAscii hh it x t
  · rw [e]; exact Draws.strWide hh it x t
theorem turn_enumS {P : Program} {w : World} {K : PySem.W.Frag} {elts : List Expr} {kk : Nat} {tpos : Pos} (z : Str) (t : Tok) (e it : Addr) :
    Turn P w K (.Tuple elts kk tpos) (IteS z) [e, it] e (fun i h => (∃ old, IsEnum h e it ((i : Nat) : Int) old) ∧ h.IsStrIter it (strIterType z) z t i ∧ e ≠ it) where
  mem := by simp
  obj := fun i h st b hb => by
    obtain ⟨⟨old, he⟩, ⟨o, ho, hc, hd⟩, _⟩ := st
    rcases (by simpa using hb : b = e ∨ b = it) with r | r
    · rw [r]; exact ⟨_, he, fun v q => nomatch q⟩
    · rw [r]; exact ⟨o, ho, fun v q => by rw [hd] at q; cases q⟩
  keep := fun i h g st k => by
    obtain ⟨⟨old, he⟩, ⟨o, ho, r⟩, hne⟩ := st
    exact ⟨⟨old, k e (by simp) _ he⟩, ⟨o, k it (by simp) o ho, r⟩, hne⟩
  item := by
    intro X hP hw hK hc i pins s σ H E I hf st hg
    subst hP hw hK
    obtain ⟨⟨old, he⟩, hit, hne⟩ := st
    have hel : e < s.heap.objs.size := Heap.lt_size he
    have hil : it < s.heap.objs.size := by obtain ⟨_, q, _⟩ := id hit; exact Heap.lt_size q
    have D := draws_str (prog := X.prog) (w := X.w) (A := X.A.in1) (show X.A.in1.handled = none from I.ok.hd hc) it z t
    refine wpAny_pyNext_enum_itemD D he hit hg hne (by simpa using hne) fun x g tk px ho hit' hT hsz hk => ?_
    obtain ⟨c, u, ec, rfl⟩ := px
    refine ⟨_, rfl, wpAny_letOwnedTupleGo_enum (s := { s with heap := g, toks := tk + 1 }) ho fun g2 he' sb => ?_⟩
    have hT2 : g2.get? s.heap.objs.size = some { cls := .type "tuple", data := .seq #[.int i tk, .str ⟨#[c]⟩ u] } := (sb.2 _ (Nat.ne_of_gt hel)).trans hT
    have new : ObjOk X.prog X.w (upd H s.heap.objs.size (.tup [.int (i : Nat), .str ⟨#[c]⟩])) g2 s.heap.objs.size (.tup [.int (i : Nat), .str ⟨#[c]⟩]) :=
      ⟨by show 2 ≤ sizeLine; decide, [.int i tk, .str ⟨#[c]⟩ u], .cons ⟨_, rfl⟩ (.cons ⟨_, rfl⟩ .nil), ⟨_, hT2, rfl, _, rfl⟩⟩
    have I1 : Inv X pins σ (upd H s.heap.objs.size (.tup [.int (i : Nat), .str ⟨#[c]⟩])) { s with heap := g2, toks := tk + 1 } :=
      I.turnedNew (ch := [e, it]) (fun b ob hb q => (sb.2 b (fun r => hb (by simp [r]))).trans (hk b ob (fun r => hb (by simp [r])) (fun r => hb (by simp [r])) q)) hf (Nat.le_refl _) new
    refine ⟨.ref s.heap.objs.size, _, I1, rfl, ⟨_, c, rfl, I.hok.fresh (Nat.le_refl _), rfl, ec⟩, ⟨⟨Value.str ⟨#[c]⟩ u, ?_⟩, ?_, hne⟩, fun b hb => ?_⟩
    · rw [show ((i + 1 : Nat) : Int) = (i : Int) + 1 by omega]; exact he'
    · obtain ⟨o, eo, r⟩ := hit'
      exact ⟨o, (sb.2 it (Ne.symm hne)).trans eo, r⟩
    · have hb' : b < s.heap.objs.size := by
        rcases (by simpa using hb : b = e ∨ b = it) with r | r
        · rw [r]; exact hel
        · rw [r]; exact hil
      rw [upd_ne (Nat.ne_of_lt hb')]
      exact (hf b hb).1
  done := by
    intro X hP hw hK hc i pins s σ H E I hf st hg
    subst hP hw hK
    obtain ⟨⟨old, he⟩, hit, hne⟩ := st
    obtain ⟨f0, f1, f2, f3, f4, f5⟩ := hf it (by simp)
    have D := draws_str (prog := X.prog) (w := X.w) (A := X.A.in1) (show X.A.in1.handled = none from I.ok.hd hc) it z t
    have ei : i = z.cps.size := hg
    subst ei
    refine wpAny_pyNext_enum_endD D he hit fun g eb => ⟨rfl, I.turned (t' := s.toks) (fun b o hb q => eb b o hb q) f0 f1 f3 f4 f5⟩
  self := fun A i s Q E st h => let ⟨⟨_, he⟩, _⟩ := st; wpAny_pyIter_enum he h
def iEnumS (ta : TA) : TI := fun σ H R => ta σ H fun vs H1 => ∃ z, vs = [.str z] ∧ R (IteS z) H1
theorem pi_enumS {X : Cx} {e : Expr} {ta : TA} {p pos tpos : Pos} {elts : List Expr} {kk : Nat} (hg : Gl X "enumerate") (hm : X.mg "enumerate" = none) (ha : PA X [e] ta) (hs : starEach [e] X.env = [(false, eval e X.env)] := by rfl) :
    PI X (.Tuple elts kk tpos) (.Call (.Name "enumerate" p) [e] [] pos) (iEnumS ta) := by
  refine ⟨fun pins s σ H R I h => Call_ (ld_blt I hg hm boot_enumerate (PyProof.Rows.callWith_type1 (thn (ha.run pos pins s σ H _ I h) fun us s1 hh => ?_) hs rfl))⟩
  obtain ⟨vs, H1, I1, r1, z, rfl, q⟩ := hh
  obtain ⟨u, rfl, ru⟩ := r1.one
  obtain ⟨t, rfl⟩ := ru
  refine call_enumerate_str fun g he hit hsz hk => wpAny_pyIter_enum he ?_
  have I2 : Inv X pins σ H1 { s1 with heap := g } := I1.kept (t' := s1.toks) hk
  refine ⟨s1.heap.objs.size + 1, [s1.heap.objs.size + 1, s1.heap.objs.size], _, _, H1, rfl, I2, turn_enumS z t (s1.heap.objs.size + 1) s1.heap.objs.size, ⟨⟨.none, he⟩, hit, Nat.succ_ne_self _⟩, fun b hb => ?_, q⟩
  have hle : s1.heap.objs.size ≤ b := by
    rcases (by simpa using hb : b = s1.heap.objs.size + 1 ∨ b = s1.heap.objs.size) with r | r
    · rw [r]; exact Nat.le_add_right _ _
    · rw [r]; exact Nat.le_refl _
  exact I1.fpOk hle (I1.hok.fresh hle)
theorem walk_enumS {z : Str} : Walk (IteS z) z.cps.size (fun _ => True) (YPair (fun i => some (.int (i : Nat))) (fun i => z.cps[i]?.map fun c => .str ⟨#[c]⟩)) :=
  ⟨fun _ _ hi _ => hi, fun _ _ => rfl, fun i H v H' _ _ y => by
    obtain ⟨T, c, r1, r2, r3, r4⟩ := y
    exact ⟨T, .int (i : Nat), .str ⟨#[c]⟩, r1, r2, r3, rfl, by show (z.cps[i]?).map _ = _; rw [r4]; rfl⟩⟩
end FR
set_option Elab.async false
set_option linter.all false
set_option maxRecDepth 100000
/-! a new dict that is walked -/
namespace FR
open PySem PySem.Spec PyProof.Rows L2
def tFrz (t : TE) : TE := fun σ H Q => t σ H fun x H1 => ∃ (d : Addr) (u : HO), x = .ref d ∧ H1 d = some u ∧ Mut (some u) ∧ ∀ od, Q x (upd H1 d (.frz od u))
theorem pe_frz {X : Cx} {e : Expr} {t : TE} (h : PE X e t) : PE X e (tFrz t) := ⟨fun pins s σ H Q I hq => thn (h.run pins s σ H _ I hq) fun v s1 hh => by
  obtain ⟨x, H1, I1, r, d, u, ex, hd, mu, q⟩ := hh
  obtain ⟨od, I2⟩ := I1.lock hd mu
  exact ⟨x, _, I2, r, q od⟩⟩
theorem pe_nev {X : Cx} {e : Expr} : PE X e (fun _ _ _ => False) := ⟨fun _ _ _ _ _ _ h => h.elim⟩
def rNotKd (K : PySem.W.Frag) (d : Addr) : R2 := fun x y H Q => ∃ (z : Str) (r : Option Value), x = .str z ∧ y = .ref d ∧ PySem.W.nsIn K d z = some r ∧ Q (.bl (!r.isSome)) H
theorem op_notKd {X : Cx} {K : PySem.W.Frag} {w : World} {d : Addr} (hk : X.K = K) (hw : X.w = w) (D : ∃ es n, KDict K w d es n) : OpR X (compareOp .NotIn) (rNotKd K d) := by
  subst hk hw
  obtain ⟨es, n, D⟩ := D
  exact op_notIn_kd D
theorem ix_tupK {X : Cx} {K : PySem.W.Frag} (h : X.K = K) : IxR X (rIxT K) := h ▸ ix_tup
/-- what no call reaches -/
theorem never_elim {P : Prop} (h : False) : P := h.elim
end FR
set_option Elab.async false
set_option linter.all false
set_option maxRecDepth 100000
set_option maxHeartbeats 4000000
/-! sets of texts: set(texts), its len, sorted(set) -/
namespace FR
open PySem PySem.Spec PyProof.Rows PySem.Froz
/-- the texts that were met, each once -/
def once (l : List Str) (xs : List Str) : List Str := xs.foldl (fun l x => if x ∈ l then l else x :: l) l
/-- a payload that holds these texts and that can be walked -/
structure Sx (P : Program) (w : World) (D : SD) (l : List Str) : Prop where
  tx : TxOk P w D l
  ris : L2.Ris D.2.2.place.toList
  led : w.params.followText "set-order" = true ∨ D.2.2.led = true
  nd : l.Nodup
section
variable {P : Program} {w : World} {A : Around} {E : Value → Shared → Prop}
theorem Sx.add {D : SD} {l : List Str} {k : Str} (u : Tok) (F : Sx P w D l) (m : k ∉ l) : Sx P w (addTx (hashStr w k) (.str k u) D) (k :: l) := by
  have r1 := L2.layNew_ris D.2.2 D.1 (hashStr w k) (.str k u) F.ris
  have l1 := L2.layNew_led D.2.2 D.1 (hashStr w k) (.str k u)
  have led1 : w.params.followText "set-order" = true ∨ (layNew D.2.2 D.1 (hashStr w k) (.str k u)).2.1.led = true := by rw [l1]; exact F.led
  refine ⟨add_ok u F.tx, ?_, ?_, List.nodup_cons.mpr ⟨m, F.nd⟩⟩
  all_goals
    unfold addTx tailTx
    generalize layNew D.2.2 D.1 (hashStr w k) (.str k u) = Z at r1 led1 ⊢
    obtain ⟨es1, t1, wd, gv⟩ := Z
    dsimp only at r1 led1 ⊢
    by_cases c : t1.plain = true
  all_goals first | rw [if_pos c] | rw [if_neg c]
  all_goals split
  all_goals first
    | exact L2.relayAll_ris _ _ _
    | exact r1
    | exact led1
    | (dsimp only; rw [L2.relayAll_led]; exact led1)
theorem Sx.new {t : SetTable} {ep : Nat} (w : World) (hf : t.fits 0 = true) (hr : L2.Ris t.place.toList) (hl : w.params.followText "set-order" = true ∨ t.led = true) : Sx P w (#[], ep, t) [] := ⟨TxOk.nil hf, hr, hl, List.nodup_nil⟩
theorem fresh_led (w : World) : w.params.followText "set-order" = true ∨ (!w.params.followText "set-order") = true := by
  cases w.params.followText "set-order"
  · exact .inr rfl
  · exact .inl rfl
theorem Sx.fresh (w : World) : Sx P w (#[], 0, .fresh 0 0 (!w.params.followText "set-order")) [] := Sx.new w rfl List.Pairwise.nil (fresh_led w)
/-- the rest of the texts of a source into the set -/
theorem upd_txs {I a : Addr} {fp wr : List Addr} {G : Array GenState → Array GenState → Prop} {n : Nat} {Pv : Nat → Value → Prop} {St : Nat → Shared → Prop} {R : Result → Shared → Prop} {T : String} {xs : List Str}
    (W : WalksS P w A.in1 I fp wr G n Pv St) (na : a ∉ fp) (hn : n = xs.length) (hval : ∀ i v, Pv i v → ∃ x t, xs[i]? = some x ∧ v = .str x t) :
    ∀ (r : List Str) (i : Nat) (D : SD) (l : List Str) (s : Shared), xs.drop i = r → i ≤ n → St i s → s.heap.get? a = some (sObj T D) → Sx P w D l → l.length + r.length < scanBound →
      (∀ (s' : Shared) (D' : SD), Moved (a :: wr) G s s' → s'.heap.get? a = some (sObj T D') → Sx P w D' (once l r) → R (.ok (.ret .none)) s') →
      codeAny (model P w) A (.builtin "set.update.loop" ⟨[.ref a, .ref I], []⟩) R s
  | [], i, D, l, s, dr, hi, st, ha, F, room, q => by
    have e : i = n := by
      have := List.drop_eq_nil_iff.mp dr
      omega
    subst e
    refine codeAny_builtin PyProof.Rows.F.entry_set_update_loop ?_
    rw [Around.under_plainId PyProof.Rows.F.plain_set_update_loop _]
    show wpAny _ A.in1 (pyNext (.ref I) >>= fun _ => _) _ _ s
    refine wpAny_bind (W.done s _ _ st fun s' mv => ?_)
    show wpAny _ A.in1 (ret Value.none) _ _ _
    exact wpAny_pure (q s' D (mv.mono fun b hb => List.mem_cons_of_mem _ hb) (mv.heap a _ (fun h => na (W.sub _ h)) ha) F)
  | c :: r, i, D, l, s, dr, hi, st, ha, F, room, q => by
    have lt : i < xs.length := by
      rcases Nat.lt_or_ge i xs.length with z | z
      · exact z
      · rw [List.drop_eq_nil_iff.mpr z] at dr
        cases dr
    have dr' := List.drop_eq_getElem_cons lt
    rw [dr] at dr'
    have room2 : l.length + (r.length + 1) < scanBound := room
    obtain ⟨ec, dr2⟩ := List.cons.inj dr'
    refine codeAny_builtin PyProof.Rows.F.entry_set_update_loop ?_
    rw [Around.under_plainId PyProof.Rows.F.plain_set_update_loop _]
    show wpAny _ A.in1 (pyNext (.ref I) >>= fun _ => _) _ _ s
    refine wpAny_bind (W.item i s _ _ (by omega) st fun v s1 hv st1 mv => ?_)
    obtain ⟨x, t, ex, rfl⟩ := hval i v hv
    obtain rfl : x = c := by rw [List.getElem?_eq_getElem lt] at ex; rw [ec]; exact (Option.some.inj ex).symm
    have ha1 := mv.heap a _ (fun h => na (W.sub _ h)) ha
    have mv1 : Moved (a :: wr) G s s1 := mv.mono fun b hb => List.mem_cons_of_mem _ hb
    show wpAny _ A.in1 (holding [Value.str x t] (setAdd a (.str x t)) >>= fun _ => _) _ _ _
    refine wpAny_bind (wpAny_holding ?_)
    unfold setAdd
    refine wpAny_holding (wpAny_bind ((strKind P w).pyHash (k := x) (is_str _ _) ?_))
    have on : ∀ {s2 : Shared} {D2 : SD} {l2 : List Str}, St (i + 1) s2 → Moved (a :: wr) G s s2 → s2.heap.get? a = some (sObj T D2) → Sx P w D2 l2 → l2.length ≤ l.length + 1 → once l2 r = once l (x :: r) →
        codeAny (model P w) A (.builtin "set.update.loop" ⟨[.ref a, .ref I], []⟩) R s2 := fun {s2 D2 l2} st2 m2 a2 F2 le e =>
      upd_txs W na hn hval r (i + 1) D2 l2 s2 dr2.symm (by omega) st2 a2 F2 (by omega) fun s' D' m' a' F' => q s' D' (Moved.trans W.gtrans m2 m') a' (by rw [← e]; exact F')
    by_cases m : x ∈ l
    · refine add_there (s := { s1 with toks := s1.toks + 1 }) ha1 F.tx m (by omega) ?_
      refine wpAny_pure ⟨plainId_quiet PyProof.Rows.F.plain_set_update_loop _, on (W.frame _ s1 s1.heap _ st1 (Nat.le_succ _) fun b _ o e => e) (mv1.then_heap (Nat.le_succ _) fun b o _ e => e) ha1 F (by omega) ?_⟩
      show once l r = once l (x :: r)
      unfold once
      rw [List.foldl_cons, if_pos m]
    · refine add_x (l := l) (D := D) (s := { s1 with toks := s1.toks + 1 }) ha1 F.tx m (by omega) ?_
      refine wpAny_pure ⟨plainId_quiet PyProof.Rows.F.plain_set_update_loop _, on (W.frame _ s1 _ _ st1 (Nat.le_succ _) fun b hb o e => ?_) (mv1.then_heap (Nat.le_succ _) fun b o hb e => ?_) (get_upd _ ha1 rfl) (F.add t m) (Nat.le_refl _) ?_⟩
      · exact PySem.Heap.get?_update_of_ne _ (fun h : a = b => na (by rw [h]; exact hb)) e
      · exact PySem.Heap.get?_update_of_ne _ (fun h : a = b => hb (by rw [h]; exact List.mem_cons_self ..)) e
      · show once (x :: l) r = once l (x :: r)
        unfold once
        rw [List.foldl_cons, if_neg m]
/-- what set(xs) leaves -/
abbrev SetLeft (P : Program) (w : World) (s : Shared) (xs : List Str) (Q : Value → Shared → Prop) : Prop :=
  ∀ (h' : Heap) (tk : Nat) (D : SD), h'.get? s.heap.objs.size = some (sObj "set" D) → Sx P w D (once [] xs) → (∀ b o, s.heap.get? b = some o → h'.get? b = some o) → Q (.ref s.heap.objs.size) { s with heap := h', toks := tk }
theorem call_set_L {s : Shared} {p : Addr} {items : Array Value} {xs : List Str} {Q : Value → Shared → Prop} (hh : A.handled = none) (hp : s.heap.IsList p items) (hx : StrsAre items.toList xs) (hb : xs.length < scanBound)
    (h : SetLeft P w s xs Q) : wpAny (model P w) A (call (.type "set") [.ref p]) Q E s := by
  have hsz : items.size = xs.length := by
    have := hx.length
    rw [Array.length_toList] at this
    exact this
  obtain ⟨c, tl, hmro⟩ := PySem.F.called_set.mro
  have hmade := PySem.F.called_set.made
  have hsub := PySem.F.called_set.sub
  refine wpAny_call (codeAny_of_tree ?_)
  show wpAny _ _ (callAny (.type "set") _) _ _ _
  refine wpAny_pure ⟨Code.quiet_builtin _ (by decide +kernel), codeAny_builtin PySem.F.entry_type_call ?_⟩
  rw [Around.under_plain (weight_type_call_type "set" [.ref p] []) rfl]
  have h1 := PySem.F.called_set.notType
  have h2 := PySem.F.called_set.canCreate
  have hct := PySem.F.typeCall_set_1 (.ref p)
  repeat (any_goals (first | assumption | wp_step))
  let S0 : Obj := { cls := .type "set", dict := none, data := .set #[] 0 (.fresh 0 0 (!w.params.followText "set-order")) }
  refine codeAny_mono (L2.code_set_led1 (.ref p) (E := E) (Q₁ := fun obj s1 => obj = .ref s.heap.objs.size ∧ s1 = { s with heap := s.heap.push S0 }) ⟨rfl, rfl⟩) fun r s1 hr => ?_
  match r, hr with
  | .error e, hr => exact hr
  | .ok (.ret obj), hr =>
    obtain ⟨rfl, rfl⟩ := hr
    have hS : (s.heap.push S0).get? s.heap.objs.size = some S0 := Heap.get?_push_size _ rfl
    have hT : Shared.TypeIs { s with heap := s.heap.push S0 } (.ref s.heap.objs.size) "set" := ⟨_, hS, rfl⟩
    have hli := PySem.F.called_set.init.lookup
    have hbi := PySem.F.called_set.init.bind (.ref s.heap.objs.size)
    repeat (any_goals (first | assumption | wp_step))
    refine codeAny_mono (codeAny_call_builtin (R := wants (fun r s2 => r = .none ∧ ∃ (h' : Heap) (tk : Nat) (D : SD), s2 = { s with heap := h', toks := tk } ∧ h'.get? s.heap.objs.size = some (sObj "set" D) ∧ Sx P w D (once [] xs) ∧
      (∀ b o, s.heap.get? b = some o → h'.get? b = some o)) E) PySem.F.called_set.init.plain PySem.F.entry_set_init (check_set_init_1 hT ?_)) fun r2 s2 hr2 => ?_
    · have hp1 : (s.heap.push S0).IsList p items := hp.push _
      obtain ⟨ol, hol, hcl, nl, hdl⟩ := hp
      obtain ⟨ocls, odict, odata, oslots⟩ := ol
      simp only at hcl hdl
      subst hcl; subst hdl
      have hol' := Heap.get?_push_of_some S0 hol
      have hsls := PySem.F.sub_list_set
      have hslf := PySem.F.sub_list_frozenset
      have hne : (Value.type "list" == Value.type "dict") = false := by decide
      unfold Builtin.«set.__init__» noKeywords Builtin.Frozenset.updateFrom
      generalize hPI : pyIter = PI
      wp_walk
      subst hPI
      refine wpAny_pyIter_list hp1 ?_
      refine wpAny_bind (wpAny_runValue ?_)
      have hz1 : (s.heap.push S0).objs.size = s.heap.objs.size + 1 := Heap.size_push ..
      have hps : p < s.heap.objs.size := Heap.lt_size hol
      have nI : p ≠ (s.heap.push S0).objs.size := Nat.ne_of_lt (by rw [hz1]; exact Nat.lt_succ_of_lt hps)
      have nS : s.heap.objs.size ≠ (s.heap.push S0).objs.size := Nat.ne_of_lt (by rw [hz1]; exact Nat.lt_succ_self _)
      refine upd_txs (T := "set") (xs := xs) ((Walks.list (by simp [hh]) _ p nI items).toS) (a := s.heap.objs.size) ?_ hsz (fun i v hv => ?_) xs 0 (#[], 0, .fresh 0 0 (!w.params.followText "set-order")) [] _ rfl (Nat.zero_le _)
        ⟨⟨_, Heap.get?_push_size _ rfl, rfl, rfl⟩, hp1.push _⟩ (Heap.get?_push_of_some _ hS) (Sx.fresh w) (by simpa using hb) fun s' D' mv a' F' => ?_
      · simp only [List.mem_cons, List.not_mem_nil, or_false, not_or]
        exact ⟨nS, Nat.ne_of_gt hps⟩
      · obtain ⟨t, e⟩ := SS.strs_at hx i v (by rw [Array.getElem?_toList]; exact hv)
        have hi : i < xs.length := by rw [← hsz]; exact (Array.getElem?_eq_some_iff.mp hv).1
        refine ⟨xs[i], t, List.getElem?_eq_getElem hi, ?_⟩
        rw [e, List.getD_eq_getElem?_getD, List.getElem?_eq_getElem hi]
        rfl
      · obtain ⟨h', g2, d', tk', os'⟩ := s'
        have eg : g2 = s.gens := mv.gens
        have ed : d' = s.drawn := mv.drawn
        have eo : os' = s.os := mv.os
        subst eg; subst ed; subst eo
        show wpAny _ _ _ _ _ _
        refine wpAny_pure ?_
        show wpAny _ _ (ret Value.none) _ _ _
        refine wpAny_pure ⟨rfl, h', tk', D', rfl, a', F', fun b o e => ?_⟩
        have hb0 : b < s.heap.objs.size := Heap.lt_size e
        exact mv.heap b o (by simp only [List.mem_cons, List.not_mem_nil, or_false, not_or]; exact ⟨Nat.ne_of_lt hb0, Nat.ne_of_lt (by rw [hz1]; exact Nat.lt_succ_of_lt hb0)⟩) (Heap.get?_push_of_some _ (Heap.get?_push_of_some _ e))
    · match r2, hr2 with
      | .error e, hr2 => exact hr2
      | .ok (.ret r), hr2 =>
        obtain ⟨rfl, h', tk, D, rfl, g1, g2, g4⟩ := hr2
        repeat (any_goals (first | assumption | wp_step))
        exact h _ _ _ g1 g2 g4
      | .ok .next, hr2 => exact hr2.elim
      | .ok .brk, hr2 => exact hr2.elim
      | .ok .cont, hr2 => exact hr2.elim
  | .ok .next, hr => exact hr.elim
  | .ok .brk, hr => exact hr.elim
  | .ok .cont, hr => exact hr.elim
theorem call_set_T {s : Shared} {p : Addr} {items : Array Value} {xs : List Str} {Q : Value → Shared → Prop} (hh : A.handled = none) (hp : s.heap.IsTuple p items) (hx : StrsAre items.toList xs) (hb : xs.length < scanBound)
    (h : SetLeft P w s xs Q) : wpAny (model P w) A (call (.type "set") [.ref p]) Q E s := by
  have hsz : items.size = xs.length := by
    have := hx.length
    rw [Array.length_toList] at this
    exact this
  obtain ⟨c, tl, hmro⟩ := PySem.F.called_set.mro
  have hmade := PySem.F.called_set.made
  have hsub := PySem.F.called_set.sub
  refine wpAny_call (codeAny_of_tree ?_)
  show wpAny _ _ (callAny (.type "set") _) _ _ _
  refine wpAny_pure ⟨Code.quiet_builtin _ (by decide +kernel), codeAny_builtin PySem.F.entry_type_call ?_⟩
  rw [Around.under_plain (weight_type_call_type "set" [.ref p] []) rfl]
  have h1 := PySem.F.called_set.notType
  have h2 := PySem.F.called_set.canCreate
  have hct := PySem.F.typeCall_set_1 (.ref p)
  repeat (any_goals (first | assumption | wp_step))
  let S0 : Obj := { cls := .type "set", dict := none, data := .set #[] 0 (.fresh 0 0 (!w.params.followText "set-order")) }
  refine codeAny_mono (L2.code_set_led1 (.ref p) (E := E) (Q₁ := fun obj s1 => obj = .ref s.heap.objs.size ∧ s1 = { s with heap := s.heap.push S0 }) ⟨rfl, rfl⟩) fun r s1 hr => ?_
  match r, hr with
  | .error e, hr => exact hr
  | .ok (.ret obj), hr =>
    obtain ⟨rfl, rfl⟩ := hr
    have hS : (s.heap.push S0).get? s.heap.objs.size = some S0 := Heap.get?_push_size _ rfl
    have hT : Shared.TypeIs { s with heap := s.heap.push S0 } (.ref s.heap.objs.size) "set" := ⟨_, hS, rfl⟩
    have hli := PySem.F.called_set.init.lookup
    have hbi := PySem.F.called_set.init.bind (.ref s.heap.objs.size)
    repeat (any_goals (first | assumption | wp_step))
    refine codeAny_mono (codeAny_call_builtin (R := wants (fun r s2 => r = .none ∧ ∃ (h' : Heap) (tk : Nat) (D : SD), s2 = { s with heap := h', toks := tk } ∧ h'.get? s.heap.objs.size = some (sObj "set" D) ∧ Sx P w D (once [] xs) ∧
      (∀ b o, s.heap.get? b = some o → h'.get? b = some o)) E) PySem.F.called_set.init.plain PySem.F.entry_set_init (check_set_init_1 hT ?_)) fun r2 s2 hr2 => ?_
    · have hp1 : (s.heap.push S0).IsTuple p items := hp.push _
      obtain ⟨ol, hol, hcl, nl, hdl⟩ := hp
      obtain ⟨ocls, odict, odata, oslots⟩ := ol
      simp only at hcl hdl
      subst hcl; subst hdl
      have hol' := Heap.get?_push_of_some S0 hol
      have hsls := PySem.F.sub_tuple_set
      have hslf := PySem.F.sub_tuple_frozenset
      have hne : (Value.type "tuple" == Value.type "dict") = false := by decide
      unfold Builtin.«set.__init__» noKeywords Builtin.Frozenset.updateFrom
      generalize hPI : pyIter = PI
      wp_walk
      subst hPI
      refine wpAny_pyIter_tuple hp1 ?_
      refine wpAny_bind (wpAny_runValue ?_)
      have hz1 : (s.heap.push S0).objs.size = s.heap.objs.size + 1 := Heap.size_push ..
      have hps : p < s.heap.objs.size := Heap.lt_size hol
      have nI : p ≠ (s.heap.push S0).objs.size := Nat.ne_of_lt (by rw [hz1]; exact Nat.lt_succ_of_lt hps)
      have nS : s.heap.objs.size ≠ (s.heap.push S0).objs.size := Nat.ne_of_lt (by rw [hz1]; exact Nat.lt_succ_self _)
      refine upd_txs (T := "set") (xs := xs) ((Walks.tuple (by simp [hh]) _ p nI items).toS) (a := s.heap.objs.size) ?_ hsz (fun i v hv => ?_) xs 0 (#[], 0, .fresh 0 0 (!w.params.followText "set-order")) [] _ rfl (Nat.zero_le _)
        ⟨⟨_, Heap.get?_push_size _ rfl, rfl, rfl⟩, hp1.push _⟩ (Heap.get?_push_of_some _ hS) (Sx.fresh w) (by simpa using hb) fun s' D' mv a' F' => ?_
      · simp only [List.mem_cons, List.not_mem_nil, or_false, not_or]
        exact ⟨nS, Nat.ne_of_gt hps⟩
      · obtain ⟨t, e⟩ := SS.strs_at hx i v (by rw [Array.getElem?_toList]; exact hv)
        have hi : i < xs.length := by rw [← hsz]; exact (Array.getElem?_eq_some_iff.mp hv).1
        refine ⟨xs[i], t, List.getElem?_eq_getElem hi, ?_⟩
        rw [e, List.getD_eq_getElem?_getD, List.getElem?_eq_getElem hi]
        rfl
      · obtain ⟨h', g2, d', tk', os'⟩ := s'
        have eg : g2 = s.gens := mv.gens
        have ed : d' = s.drawn := mv.drawn
        have eo : os' = s.os := mv.os
        subst eg; subst ed; subst eo
        show wpAny _ _ _ _ _ _
        refine wpAny_pure ?_
        show wpAny _ _ (ret Value.none) _ _ _
        refine wpAny_pure ⟨rfl, h', tk', D', rfl, a', F', fun b o e => ?_⟩
        have hb0 : b < s.heap.objs.size := Heap.lt_size e
        exact mv.heap b o (by simp only [List.mem_cons, List.not_mem_nil, or_false, not_or]; exact ⟨Nat.ne_of_lt hb0, Nat.ne_of_lt (by rw [hz1]; exact Nat.lt_succ_of_lt hb0)⟩) (Heap.get?_push_of_some _ (Heap.get?_push_of_some _ e))
    · match r2, hr2 with
      | .error e, hr2 => exact hr2
      | .ok (.ret r), hr2 =>
        obtain ⟨rfl, h', tk, D, rfl, g1, g2, g4⟩ := hr2
        repeat (any_goals (first | assumption | wp_step))
        exact h _ _ _ g1 g2 g4
      | .ok .next, hr2 => exact hr2.elim
      | .ok .brk, hr2 => exact hr2.elim
      | .ok .cont, hr2 => exact hr2.elim
  | .ok .next, hr => exact hr.elim
  | .ok .brk, hr => exact hr.elim
  | .ok .cont, hr => exact hr.elim

/-- the set at a, as the walk knows it -/
def SetS (P : Program) (w : World) (a : Addr) (l : List Str) : L2.HO := .ext fun h => ∃ D, h.get? a = some (sObj "set" D) ∧ Sx P w D l
end
section
open L2
variable {X : Cx}
theorem setS_new {P : Program} {w : World} {H : Hp} {h : Heap} {a : Addr} {D : SD} {l : List Str} (g : h.get? a = some (sObj "set" D)) (F : Sx P w D l) : ObjOk P w H h a (SetS P w a l) :=
  ⟨⟨D, g, F⟩, ⟨_, g⟩, fun _ _ ⟨D', g', F'⟩ k => ⟨D', k _ g', F'⟩⟩
theorem setS_get {pins : List (Addr × Obj)} {σ : L2.St} {H : Hp} {s : Shared} {a : Addr} {l : List Str} (I : Inv X pins σ H s) (ha : H a = some (SetS X.prog X.w a l)) : ∃ D, s.heap.get? a = some (sObj "set" D) ∧ Sx X.prog X.w D l := (I.hok a _ ha).1
/-- the texts of a list or a tuple -/
def TxSq (K : PySem.W.Frag) (H : Hp) (x : V) (xs : List Str) : Prop := ∃ p, x = .ref p ∧ (SqL K H p (xs.map V.str) ∨ SqT K H p (xs.map V.str))
theorem call_set_txs {A : Around} {E : Value → Shared → Prop} {pins : List (Addr × Obj)} {σ : L2.St} {H : Hp} {s : Shared} {x : V} {u : Value} {xs : List Str} {Q : Value → Shared → Prop} (I : Inv X pins σ H s) (hh : A.handled = none) (r : RelV x u) (hx : TxSq X.K H x xs) (hb : xs.length < scanBound)
    (h : SetLeft X.prog X.w s xs Q) : wpAny (model X.prog X.w) A (call (.type "set") [u]) Q E s := by
  obtain ⟨p, rfl, hq | hq⟩ := hx
  · cases r
    obtain ⟨its, rv, pl, hz⟩ := I.list hq
    exact call_set_L hh pl.isList (by simpa using rv.strs) hb h
  · cases r
    obtain ⟨its, rv, pl, hz⟩ := I.tuple hq
    exact call_set_T hh pl (by simpa using rv.strs) hb h
/-- set(xs) -/
def rSetS (K : PySem.W.Frag) (P : Program) (w : World) : List V → Hp → VK → Prop := fun vs H Q => ∃ x xs, vs = [x] ∧ TxSq K H x xs ∧ xs.length < 64 ∧ ∀ a, H a = none → Q (.ref a) (upd H a (SetS P w a (once [] xs)))
theorem cr_setS (hc : X.calm = true) : CallR X (.type "set") (rSetS X.K X.prog X.w) := by
  intro pins s σ H vs us Q I r h
  obtain ⟨x, xs, rfl, hx, h64, q⟩ := h
  obtain ⟨u, rfl, rx⟩ := vals1 r
  refine call_set_txs I (I.ok.hd hc) rx hx (by unfold scanBound; omega) fun h' tk D g F k => ?_
  exact ⟨.ref _, upd H s.heap.objs.size (SetS X.prog X.w s.heap.objs.size (once [] xs)), I.laid (t' := tk) k (Nat.le_refl _) (setS_new g F), rfl, q _ (I.hok.fresh (Nat.le_refl _))⟩
/-- len(set(e)) -/
def tLenSetS (K : PySem.W.Frag) (ta : TE) : TE := fun σ H Q => ta σ H fun x H1 => ∃ xs, TxSq K H1 x xs ∧ xs.length < 64 ∧ Q (.int ((once [] xs).length : Nat)) H1
theorem once_len : ∀ (xs l : List Str), (once l xs).length ≤ l.length + xs.length
  | [], l => Nat.le_refl _
  | c :: r, l => by
    unfold once
    rw [List.foldl_cons]
    have h1 := once_len r l
    have h2 := once_len r (c :: l)
    unfold once at h1 h2
    split
    · simp only [List.length_cons] at h1 ⊢; omega
    · simp only [List.length_cons] at h2 ⊢; omega
theorem once_mem : ∀ (xs l : List Str) (x : Str), x ∈ once l xs ↔ x ∈ l ∨ x ∈ xs
  | [], l, x => by simp [once]
  | c :: r, l, x => by
    unfold once
    rw [List.foldl_cons]
    have h1 := once_mem r l x
    have h2 := once_mem r (c :: l) x
    unfold once at h1 h2
    split
    · rename_i m
      rw [h1, List.mem_cons]
      constructor
      · rintro (z | z)
        · exact .inl z
        · exact .inr (.inr z)
      · rintro (z | rfl | z)
        · exact .inl z
        · exact .inl m
        · exact .inr z
    · rw [h2, List.mem_cons, List.mem_cons, or_assoc, or_left_comm]
theorem once_nodup : ∀ (xs l : List Str), l.Nodup → (once l xs).Nodup
  | [], l, h => h
  | c :: r, l, h => by
    unfold once
    rw [List.foldl_cons]
    split
    · exact once_nodup r l h
    · rename_i m
      exact once_nodup r (c :: l) (List.nodup_cons.mpr ⟨m, h⟩)
theorem once_free : ∀ (xs l : List Str), xs.Nodup → (∀ x ∈ xs, x ∉ l) → (once l xs).length = l.length + xs.length
  | [], l, _, _ => rfl
  | c :: r, l, h, d => by
    obtain ⟨h1, h2⟩ := List.nodup_cons.mp h
    unfold once
    rw [List.foldl_cons, if_neg (d c (List.mem_cons_self ..))]
    have := once_free r (c :: l) h2 fun x hx m => by
      rcases List.mem_cons.mp m with z | z
      · exact h1 (z ▸ hx)
      · exact d x (List.mem_cons_of_mem _ hx) z
    unfold once at this
    rw [this, List.length_cons, List.length_cons]
    omega
theorem pe_lenSetS {a : Expr} {ta : TE} {p p2 q pos : Pos} (hg : Gl X "len") (hm : X.mg "len" = none) (hg2 : Gl X "set") (hm2 : X.mg "set" = none) (ha : PE X a ta) (hc : X.calm = true := by rfl)
    (na : starEach [a] X.env = (false, eval a X.env) :: starEach [] X.env := by rfl) : PE X (.Call (.Name "len" p) [.Call (.Name "set" p2) [a] [] q] [] pos) (tLenSetS X.K ta) := by
  refine ⟨fun pins s σ H Q I h => ?_⟩
  refine Call_ (ld_blt I hg hm boot_len ?_)
  refine PyProof.Rows.callWith_builtin1 (PyProof.Rows.args_cons ?_ rfl) rfl rfl
  refine Call_ (ld_blt I hg2 hm2 (show bootBuiltins ("set" : Str) = some (.type "set") by decide +kernel) ?_)
  refine PyProof.Rows.callWith_type1 (PyProof.Rows.args_cons (thn (ha.run pins s σ H _ I h) fun v s1 ⟨x, H1, I1, r1, q1⟩ => PyProof.Rows.args_nil ?_) na) na rfl
  obtain ⟨xs, hx, h64, q1⟩ := q1
  refine call_set_txs I1 (I1.ok.hd hc) r1 hx (by unfold scanBound; omega) fun h' tk D g1 F k => ?_
  refine PyProof.Rows.args_nil ?_
  have I2 : Inv X pins σ H1 { s1 with heap := h', toks := tk } := I1.kept k
  have hn : D.1.size = (once [] xs).length := F.tx.sz
  have hl := once_len xs []
  simp only [List.length_nil, Nat.zero_add] at hl
  exact call_len_set (es := D.1) (ep := D.2.1) (t := D.2.2) g1 ⟨rfl, rfl, rfl⟩ rfl F.tx.fit (by rw [hn]; omega) ⟨.int (once [] xs).length, H1, I2.tok _, ⟨_, by rw [hn]⟩, q1⟩
/-- sorted(the set) -/
def rSortSet (P : Program) (w : World) : List V → Hp → VK → Prop := fun vs H Q => ∃ a l, vs = [.ref a] ∧ H a = some (SetS P w a l) ∧ l.length < 64 ∧ ∀ (ys : List Str) (p : Addr), ys.Perm l → sortedS ys = true → H p = none → Q (.ref p) (upd H p (.lst (ys.map V.str)))
theorem perm_by : ∀ (l ks : List Str), l.Nodup → (∀ x ∈ l, x ∈ ks) → ks.length ≤ l.length → l.Perm ks
  | [], ks, _, _, h => by
    rw [List.length_eq_zero_iff.mp (Nat.le_zero.mp h)]
  | c :: r, ks, d, m, h => by
    obtain ⟨d1, d2⟩ := List.nodup_cons.mp d
    have hc := m c (List.mem_cons_self ..)
    have hl := List.length_erase_of_mem hc
    have := perm_by r (ks.erase c) d2 (fun x hx => (List.mem_erase_of_ne (fun e : x = c => d1 (by rw [← e]; exact hx))).mpr (m x (List.mem_cons_of_mem _ hx))) (by rw [hl]; simp only [List.length_cons] at h; omega)
    exact (this.cons c).trans (List.perm_cons_erase hc).symm
theorem txs_of : ∀ (vs : List Value), (∀ v ∈ vs, ∃ x t, v = Value.str x t) → ∃ ks : List Str, StrsAre vs ks
  | [], _ => ⟨[], .nil⟩
  | v :: vs, h => by
    obtain ⟨ks, hk⟩ := txs_of vs fun x hx => h x (List.mem_cons_of_mem _ hx)
    obtain ⟨x, t, rfl⟩ := h v (List.mem_cons_self ..)
    exact ⟨x :: ks, .cons x t hk⟩
theorem strs_mem : ∀ {vs : List Value} {ks : List Str}, StrsAre vs ks → ∀ x t, Value.str x t ∈ vs → x ∈ ks
  | _, _, .nil, x, t, h => absurd h (List.not_mem_nil)
  | _, _, .cons y u r, x, t, h => by
    rcases List.mem_cons.mp h with e | m
    · cases e; exact List.mem_cons_self ..
    · exact List.mem_cons_of_mem _ (strs_mem r x t m)
theorem cr_sortSet (hc : X.calm = true) : CallR X (.builtin "sorted") (rSortSet X.prog X.w) := by
  intro pins s σ H vs us Q I r h
  obtain ⟨a, l, rfl, ha, h64, q⟩ := h
  obtain ⟨D, g, F⟩ := setS_get I ha
  rw [Vals.ref1 r]
  have sz : D.1.size = l.length := F.tx.sz
  refine Calls.call_function_entry PyProof.Rows.kind_sorted PyProof.Rows.plain_sorted PyProof.Rows.entry_sorted (PyProof.Rows.args_sorted1 _) ?_
  unfold Builtin.«sorted»
  refine wpAny_bind (m := checkCount "sorted" 1 1 _) (wpAny_pure ?_)
  refine wpAny_bind (L2.collect_set (A := X.A.in1) (es := D.1) (ep := D.2.1) (t := D.2.2) (I.ok.hd hc) ⟨_, g, rfl, rfl⟩ F.tx.fit (by unfold scanBound; omega) F.ris F.led fun s1 out k1 hz g1 o1 pm => ?_)
  have texts : ∀ v ∈ out, ∃ x t, v = Value.str x t := fun v hv => by
    obtain ⟨e, he, rfl⟩ := List.mem_map.mp (pm.mem_iff.mp hv)
    obtain ⟨⟨k, hk, _⟩, _⟩ := F.tx.el e he
    obtain ⟨t, ev⟩ := Value.isStrOf_shape (x := k) (v := e.2) hk
    exact ⟨k, t, ev⟩
  obtain ⟨ks, hS⟩ := txs_of out texts
  have hol : out.length = l.length := by rw [pm.length_eq, List.length_map, Array.length_toList]; exact sz
  have kp : l.Perm ks := perm_by l ks F.nd (fun x hx => by
    obtain ⟨e, he, hk⟩ := (F.tx.mem x).mp hx
    obtain ⟨t, ev⟩ := Value.isStrOf_shape (x := x) (v := e.2) hk
    exact strs_mem hS x t (by rw [← ev]; exact pm.mem_iff.mpr (List.mem_map_of_mem he))) (by rw [← hS.length, hol]; exact Nat.le_refl _)
  have hlen0 : out.length < 64 := by rw [hol]; exact h64
  have I1 : Inv X pins σ H s1 := I.call' (ch := []) o1 (Un.kept k1) (I.hok.kept k1) (by rw [g1]; exact I.bare) (fun _ z => nomatch z)
  refine wpAny_bind (wpAny_newList ?_ (by rw [sizeLine_eq]; omega))
  have hoL : (s1.heap.push (seqObj "list" out.toArray 0)).get? s1.heap.objs.size = some (seqObj "list" out.toArray 0) := Heap.get?_push_size _ rfl
  refine wpAny_bind (wpAny_holding (wpAny_call_entry PyProof.Rows.slot_list_sort ⟨_, hoL, rfl⟩ PyProof.Rows.entry_list_sort
    (list_sort_treeK strKind_oneLt (s := { s1 with heap := s1.heap.push (seqObj "list" out.toArray 0) }) hoL hS.keysOf (fun v₁ v₂ rest e => keyKind_strs (by rw [← e]; exact hS)) hlen0 fun st' hp hs => ⟨_, rfl, ?_⟩)
    (PyProof.Rows.args_list_sort _)))
  obtain ⟨ys, p1, p2, p3⟩ := sorted_out_str hS hp hs
  obtain ⟨e', he'⟩ := PyProof.Rows.sortedHeap_at (vs := out) (out := (arrOf st').map (·.2)) hoL
  have hlen : (ys.map V.str).length ≤ sizeLine := by
    rw [List.length_map, p2.length_eq, kp.symm.length_eq]
    exact Nat.le_trans (Nat.le_of_lt h64) (by decide)
  refine wpAny_pure ⟨_, rfl, .ref s1.heap.objs.size, upd H s1.heap.objs.size (.lst (ys.map V.str)), I1.laid (t' := s1.toks) (fun b u e => ?_) (Nat.le_refl _)
    (show ObjOk X.prog X.w _ _ _ (.lst (ys.map V.str)) from ⟨hlen, ((arrOf st').map (·.2)).toList, e', vals_of_strs p1, by rw [Array.toArray_toList]; exact he'⟩), rfl, q ys _ (p2.trans kp.symm) p3 (I1.hok.fresh (Nat.le_refl _))⟩
  have hb : b < s1.heap.objs.size := Heap.lt_size e
  rw [PyProof.Rows.sortedHeap_old (Nat.ne_of_lt hb) (by rw [size_push']; exact Nat.lt_succ_of_lt hb)]
  exact Heap.get?_push_of_some _ e
end
end FR
set_option Elab.async false
set_option linter.all false
set_option maxRecDepth 100000
set_option maxHeartbeats 4000000
/-! {elt for t0 in i0 for t1 in i1}: a set of texts by two clauses -/
namespace FR
open PySem PySem.Spec PyProof.Rows PySem.Froz L2
abbrev Sl := L2.St
/-- one turn of a clause without tests: B is what it does with an item -/
def turnOf (p : Pos) (tg : Expr) (it : Value) (env : Env) (B : Sem Unit) (ag : Sem Fin) : Sem Fin := do
  standAt p
  match ← pyNext it with
  | none => pure (.done .next)
  | some v =>
    letOwnedTupleGo tg it v
    assign tg env v
    B
    ag
theorem turn_1 (elt t0 i0 t1 i1 : Expr) (scope : Scope) (pos : Pos) (it acc : Value) (env : Env) :
    compTurn (.SetComp elt [⟨t0, i0, [], 0⟩, ⟨t1, i1, [], 0⟩] scope pos) 1 it acc env =
      turnOf i1.pos t1 it env (do let v ← eval elt env; standAt elt.pos; let _ ← call (.builtin "set.add") [acc, v]) (again (.compLoop (.SetComp elt [⟨t0, i0, [], 0⟩, ⟨t1, i1, [], 0⟩] scope pos) 1 it acc env)) := rfl
theorem turn_0 (elt t0 i0 t1 i1 : Expr) (scope : Scope) (pos : Pos) (it acc : Value) (env : Env) :
    compTurn (.SetComp elt [⟨t0, i0, [], 0⟩, ⟨t1, i1, [], 0⟩] scope pos) 0 it acc env =
      turnOf i0.pos t0 it env (do
        let x ← eval i1 env
        standAt i1.pos
        let x ← foldedSetIterable i1 env x
        let _ ← runOwn (.compStart (.SetComp elt [⟨t0, i0, [], 0⟩, ⟨t1, i1, [], 0⟩] scope pos) 1 (← holding [x] (pyIter x)) acc env) env) (again (.compLoop (.SetComp elt [⟨t0, i0, [], 0⟩, ⟨t1, i1, [], 0⟩] scope pos) 0 it acc env)) := by
  unfold turnOf
  simp only [bind_assoc, pure_bind]
  rfl
/-- the slots of τ know what those of σ know -/
def Kn (σ τ : Sl) : Prop := τ.length = σ.length ∧ ∀ (j : Nat) v, σ[j]? = some (some v) → τ[j]? = some (some v)
theorem kn_wipe {σ τ : Sl} {vs : List Nat} (h : wipe τ vs = wipe σ vs) : Kn (wipe σ vs) τ := ⟨by rw [← h, wipe_length], fun j v e => by rw [← h] at e; exact (wipe_some e).1⟩
theorem kn_in {σ τ : Sl} {vs ws : List Nat} (h : wipe τ vs = wipe σ vs) (sub : ∀ i ∈ ws, i ∈ vs) : Kn (wipe σ vs) (wipe τ ws) := ⟨by rw [← h, wipe_length, wipe_length], fun j v e => by
  rw [← h] at e
  obtain ⟨e1, e2⟩ := wipe_some e
  rw [wipe_out fun z => e2 (sub j z)]
  exact e1⟩
theorem Inv.known {X : Cx} {pins : List (Addr × Obj)} {σ τ : Sl} {H : Hp} {s : Shared} (I : Inv X pins τ H s) (k : Kn σ τ) : Inv X pins σ H s := I.weak k.1.symm k.2
section
variable {Y : Cx}
/-- what one turn needs -/
def Round (J : It) (g : TG) (σ0 : Sl) (B : Sl → Hp → (Hp → Prop) → Prop) (Qd : Hp → Prop) (W : Nat → Nat → Hp → Prop) : Prop := ∀ i m H, W i m H →
  (J.stop i H ∧ Qd H) ∨ (J.go i H ∧ ∃ Nx : Hp → Prop, (∀ H', Nx H' → ∃ m', m' < m ∧ W (i + 1) m' H') ∧ ∀ x H', J.yld i H x H' → g x σ0 H' fun σ2 H2 => B σ2 H2 Nx)
theorem clause {k : Nat} {e tg elt : Expr} {gens : List Comprehension} {scope : Scope} {pos p : Pos} {g : TG} {B : Sem Unit} {Bt : Sl → Hp → (Hp → Prop) → Prop} {it D : Addr} {fp : List Addr} {tn : Nat → Heap → Prop} {J : It} {Qd : Hp → Prop} {W : Nat → Nat → Hp → Prop} {pins : List (Addr × Obj)} {σ0 : Sl} {R : Result → Shared → Prop}
    (he : e = .SetComp elt gens scope pos) (hc : Y.calm = true) (hx : Y.xe = fun _ _ => False) (hq : (Code.compLoop e k (.ref it) (.ref D) Y.env).quiet = true) (eq : compTurn e k (.ref it) (.ref D) Y.env = turnOf p tg (.ref it) Y.env B (again (.compLoop e k (.ref it) (.ref D) Y.env)))
    (T : Turn Y.prog Y.w Y.K tg J fp it tn) (pg : PG Y tg g)
    (body : ∀ (pins' : List (Addr × Obj)) (s : Shared) (σ2 : Sl) (H : Hp) (Nx : Hp → Prop), Inv Y pins' σ2 H s → Bt σ2 H Nx → wpAny (model Y.prog Y.w) Y.A B (fun _ s' => ∃ σ3 H', Inv Y pins' σ3 H' s' ∧ Kn σ0 σ3 ∧ Nx H') (fun _ _ => False) s)
    (rd : Round J g σ0 Bt Qd W) (hR : ∀ s' H', Inv Y pins σ0 H' s' → Qd H' → R (.ok .next) s')
    {m : Nat} {H : Hp} {s : Shared} (I : Inv Y pins σ0 H s) (st : tn 0 s.heap) (hf : ∀ b ∈ fp, FpOk Y pins H b) (w : W 0 m H) : codeAny (model Y.prog Y.w) Y.A (.compLoop e k (.ref it) (.ref D) Y.env) R s := by
  subst he
  have ok : ∀ {H' : Hp}, (∀ b ∈ fp, H' b = none) → ∀ b ∈ fp, FpOk Y pins H' b := fun n b hb => ⟨n b hb, (hf b hb).2⟩
  refine codeAny_loop hq (fun n s' => ∃ i H', Inv Y pins σ0 H' s' ∧ tn i s'.heap ∧ (∀ b ∈ fp, H' b = none) ∧ W i n H') ?_ m ⟨0, H, I, st, fun b hb => (hf b hb).1, w⟩
  rintro n s5 ⟨i, H5, I5, st5, n5, w5⟩
  show wpAny _ Y.A ((compTurn (.SetComp elt gens scope pos) k (.ref it) (.ref D) Y.env).onRaise (fun x => do noteFrame x Y.env; theTreesLotGoes x)) _ _ s5
  refine wpAny_noted ?_
  rw [eq]
  unfold turnOf
  refine wpAny_bind (wpAny_standAt (wpAny_bind ?_))
  rcases rd i n H5 w5 with ⟨stop, q⟩ | ⟨go, Nx, on, step⟩
  · refine thnF (T.done Y rfl rfl rfl hc i pins s5 σ0 H5 (fun _ _ => False) I5 (ok n5) st5 stop) fun r s6 ⟨hr, I6⟩ => ?_
    subst hr
    exact wpAny_pure (hR s6 H5 I6 q)
  · refine thnF (T.item Y rfl rfl rfl hc i pins s5 σ0 H5 (fun _ _ => False) I5 (ok n5) st5 go) fun r s6 ⟨u, hr, h6⟩ => ?_
    subst hr
    refine wpAny_bind (thnF h6 fun _ s7 ⟨x, H7, I7, r7, y7, st7, n7⟩ => ?_)
    have I7' := I7.pinned (ok n7) (T.obj _ _ st7)
    have run := pg.run _ s7 σ0 H7 x u _ I7' r7 (step x H7 y7)
    rw [hx] at run
    refine wpAny_bind (thnF run fun _ s8 ⟨σ8, H8, I8, q8⟩ => ?_)
    refine wpAny_bind (thnF (body _ s8 σ8 H8 Nx I8 q8) fun _ s9 ⟨σ9, H9, I9, kn, nx⟩ => ?_)
    obtain ⟨m', hm, w'⟩ := on H9 nx
    have there : ∀ b ∈ fp, ∀ o, s7.heap.get? b = some o → s9.heap.get? b = some o ∧ H9 b = none := fun b hb o e =>
      let z := I9.pin (b, o) (List.mem_append_right _ (List.mem_append_right _ (mem_pinsAt hb e)))
      ⟨z.1, z.2.1⟩
    refine wpAny_pure ⟨rfl, m', hm, i + 1, H9, Inv.known I9.unpinned kn, T.keep _ _ _ st7 fun b hb o e => (there b hb o e).1, fun b hb => ?_, w'⟩
    obtain ⟨o, e, _⟩ := T.obj _ _ st7 b hb
    exact (there b hb o e).2
/-- set.add of a text -/
theorem add_text {A : Around} {E : Value → Shared → Prop} {pins : List (Addr × Obj)} {σ : Sl} {H : Hp} {s : Shared} {D : Addr} {l : List Str} {x : Str} {u : Tok} {Q : Value → Shared → Prop} (I : Inv Y pins σ H s) (hD : H D = some (SetS Y.prog Y.w D l)) (room : l.length + 1 < scanBound)
    (h : ∀ s', Inv Y pins σ (upd H D (SetS Y.prog Y.w D (once l [x]))) s' → Q .none s') : wpAny (model Y.prog Y.w) A (call (.builtin "set.add") [.ref D, .str x u]) Q E s := by
  obtain ⟨P, g, F⟩ := setS_get I hD
  have hT : s.TypeIs (.ref D) "set" := ⟨_, g, rfl⟩
  have same : once l [x] = if x ∈ l then l else x :: l := rfl
  rw [same] at h
  refine wpAny_call_entry PySem.F.slot_set_add hT PySem.F.entry_set_add ?_ (PySem.F.args_set_add_2 _ _)
  unfold Builtin.«set.add» Builtin.Frozenset.oneOther
  simp only [List.isEmpty_nil, bind_assoc]
  unfold Builtin.Frozenset.addrOf setAdd
  refine wpAny_bind (wpAny_pure ?_)
  try dsimp only
  refine wpAny_bind (wpAny_pure ?_)
  try dsimp only
  refine wpAny_bind (wpAny_holding (wpAny_bind ((strKind Y.prog Y.w).pyHash (k := x) (is_str _ _) ?_)))
  by_cases m : x ∈ l
  · rw [if_pos m] at h
    refine add_there (s := { s with toks := s.toks + 1 }) g F.tx m (by omega) ?_
    show wpAny _ _ (ret Value.none) _ _ _
    refine wpAny_pure ⟨_, rfl, h _ ?_⟩
    have e : upd H D (SetS Y.prog Y.w D l) = H := by
      funext b
      unfold upd
      split
      · rename_i z; rw [z]; exact hD.symm
      · rfl
    rw [e]
    exact I.tok _
  · rw [if_neg m] at h
    refine add_x (l := l) (D := P) (s := { s with toks := s.toks + 1 }) g F.tx m room ?_
    show wpAny _ _ (ret Value.none) _ _ _
    refine wpAny_pure ⟨_, rfl, h _ (I.write (e := D) (t' := s.toks + 1) (by rw [hD]; trivial) (.inl rfl) (fun b o n e => PySem.Heap.get?_update_of_ne _ (Ne.symm n) e) ⟨_, get_upd _ g rfl⟩ (setS_new (get_upd _ g rfl) (F.add u m)))⟩
end
section
variable {prog : Program} {w : World} {A : Around} {R : Result → Shared → Prop} {s : Shared} {elt t0 i0 t1 i1 : Expr} {scope : Scope} {pos : Pos} {it acc : Value} {env : Env}
theorem start_1 (h0 : codeAny (model prog w) A (.compLoop (.SetComp elt [⟨t0, i0, [], 0⟩, ⟨t1, i1, [], 0⟩] scope pos) 1 it acc env) R s)
    (h : wpAny (model prog w) A (pyIter it) (fun it' s' => codeAny (model prog w) A (.compLoop (.SetComp elt [⟨t0, i0, [], 0⟩, ⟨t1, i1, [], 0⟩] scope pos) 1 it' acc env) R s') (notedBy (model prog w) A env fun x s' => R (.error x) s') s) :
    codeAny (model prog w) A (.compStart (.SetComp elt [⟨t0, i0, [], 0⟩, ⟨t1, i1, [], 0⟩] scope pos) 1 it acc env) R s := by
  refine codeAny_of_tree ?_
  show wpAny _ _ ((compStart (.SetComp elt [⟨t0, i0, [], 0⟩, ⟨t1, i1, [], 0⟩] scope pos) 1 it acc env).onRaise (fun x => do noteFrame x env; standAt theWindowsPlace)) _ _ s
  refine wpAny_notedAt ?_
  unfold compStart
  show wpAny _ _ (ask >>= _) _ _ s
  refine wpAny_bind (wpAny_askSetting (wpAny_ite ?_))
  split
  · first | exact wpAny_bind (wpAny_pure (wpAny_pure ⟨rfl, h0⟩)) | exact wpAny_pure ⟨rfl, h0⟩
  · refine wpAny_bind (wpAny_rule ?_)
    show wpAny _ _ (standAt i1.pos >>= _) _ _ s
    exact wpAny_bind (wpAny_standAt (wpAny_bind (wpAny_mono h (fun it' s' h' => wpAny_pure ⟨rfl, h'⟩) fun _ _ x => x)))
end
section
variable {X : Cx}
/-- {elt for t0 in i0 for t1 in i1}; vs: the block's names, vs1: those of t1 -/
def tSc2 (P : Program) (w : World) (wi : TI) (g : TG) (wi1 : TI) (g1 : TG) (te : TE) (vs vs1 : List Nat) : TE := fun σ H Q => wi σ H fun J H1 => ∀ D, H1 D = none → ∃ W : Nat → Nat → Hp → Prop, (∃ m, W 0 m (upd H1 D (SetS P w D []))) ∧
  Round J g (wipe σ vs) (fun σ2 H2 Nx => wipe σ2 vs = wipe σ vs ∧ wi1 σ2 H2 fun J1 H3 => ∃ W1 : Nat → Nat → Hp → Prop, (∃ m, W1 0 m H3) ∧
    Round J1 g1 (wipe σ2 vs1) (fun σ3 H5 Nx1 => wipe σ3 vs1 = wipe σ2 vs1 ∧ te σ3 H5 fun y H6 => ∃ x l, y = .str x ∧ H6 D = some (SetS P w D l) ∧ l.length + 1 < scanBound ∧ Nx1 (upd H6 D (SetS P w D (once l [x])))) Nx W1) (Q (.ref D)) W
theorem pe_sc2 {elt t0 i0 t1 i1 : Expr} {scope : Scope} {own : List (Str × Nat)} {vs1 : List Nat} {pos : Pos} {wi wi1 : TI} {g g1 : TG} {te : TE} (hc : X.calm = true) (hN : X.N.Nodup) (hi : PI X t0 i0 wi) (ok : BlkOk X.N X.env.scope scope own) (hv : ∀ i ∈ vs1, i ∈ own.map (·.2))
    (hg : ∀ (s : Shared) (H : Hp) (C : Addr) (cl : List (Str × Addr)) (fp : List Addr), PG (X.blk s H scope (compEnvC scope cl C X.env) fp) t0 g)
    (hi1 : ∀ (s : Shared) (H : Hp) (C : Addr) (cl : List (Str × Addr)) (fp : List Addr), PI (X.blk s H scope (compEnvC scope cl C X.env) fp) t1 i1 wi1)
    (hg1 : ∀ (s : Shared) (H : Hp) (C : Addr) (cl : List (Str × Addr)) (fp : List Addr), PG (X.blk s H scope (compEnvC scope cl C X.env) fp) t1 g1)
    (he : ∀ (s : Shared) (H : Hp) (C : Addr) (cl : List (Str × Addr)) (fp : List Addr), PE (X.blk s H scope (compEnvC scope cl C X.env) fp) elt te)
    (hs : ∀ x, foldedSetIterable i0 X.env x = pure x := by intro _; rfl) (hs1 : ∀ env x, foldedSetIterable i1 env x = pure x := by intro _ _; rfl) :
    PE X (.SetComp elt [⟨t0, i0, [], 0⟩, ⟨t1, i1, [], 0⟩] scope pos) (tSc2 X.prog X.w wi g wi1 g1 te (own.map (·.2)) vs1) := by
  refine ⟨fun pins s σ H Q I h => ?_⟩
  have hfree : ∀ y ∈ scope.names, y.2 = .free → ∃ c, X.env.cells.lookup y.1 = some c := fun y hy e => I.ok.has _ (ok.free y hy e)
  show wpAny _ _ (comprehension _ _ _ _ _ _ _) _ _ _
  refine wpAny_comprehension_free (use := none) rfl hs (closure_ok hfree) ok.kind (fun y hy e => by rw [ok.uniq y hy, e]) (thn (hi.run pins s σ H _ I h) fun xv s1 hx => thn hx fun itv s2 h2 => ?_)
  obtain ⟨it, fp, tn, J, H2, rfl, I2, T, st2, f2, q⟩ := h2
  refine PpSet.newSet_ok (newEnv_comp ?_)
  generalize hD : s2.heap.objs.size = D
  have hDn : H2 D = none := I2.hok.fresh (Nat.le_of_eq hD)
  obtain ⟨W, ⟨m0, w0⟩, rd⟩ := q D hDn
  let S0 : Obj := { cls := .type "set", dict := none, data := .set #[] 0 (.fresh 0 0 (!X.w.params.followText "set-order")) }
  generalize hs3 : ({ s2 with heap := s2.heap.push S0 } : Shared) = s3
  generalize hH3 : upd H2 D (SetS X.prog X.w D []) = H3 at w0
  have h3 : s3.heap = s2.heap.push S0 := by rw [← hs3]
  have I3 : Inv X pins σ H3 s3 := by
    rw [← hs3, ← hH3]
    refine I2.laid (t' := s2.toks) (fun b o e => Heap.get?_push_of_some _ e) (Nat.le_of_eq hD) ?_
    rw [← hD]
    exact setS_new (D := (#[], 0, .fresh 0 0 (!X.w.params.followText "set-order"))) (Heap.get?_push_size _ rfl) (Sx.fresh X.w)
  have f3 : ∀ b ∈ fp, FpOk X pins H3 b ∧ b < s3.heap.objs.size := fun b hb => by
    obtain ⟨o, e, _⟩ := T.obj _ _ st2 b hb
    have lt := Heap.lt_size e
    refine ⟨⟨?_, (f2 b hb).2⟩, by rw [h3, Heap.size_push]; exact Nat.lt_succ_of_lt lt⟩
    rw [← hH3, upd_ne (by rw [← hD]; exact Nat.ne_of_lt lt)]
    exact (f2 b hb).1
  have I4 := block_start I3 ok hN f3
  have keep4 : ∀ b o, s2.heap.get? b = some o → (pushCells (s3.heap.push { cls := .type "dict", data := .dict #[] }) scope.names).get? b = some o := fun b o e => pushCells_keeps _ _ _ _ (Heap.get?_push_of_some _ (by rw [h3]; exact Heap.get?_push_of_some _ e))
  show codeAny _ _ (.compStart (.SetComp elt [⟨t0, i0, [], 0⟩, ⟨t1, i1, [], 0⟩] scope pos) 0 (.ref it) (.ref D) (compEnvC scope (cellsFrom (s3.heap.objs.size + 1) scope.names (cloFrom X.env.cells scope.names [])) s3.heap.objs.size X.env)) _ { s3 with heap := pushCells (s3.heap.push { cls := .type "dict", data := .dict #[] }) scope.names }
  have pg := hg s3 H3 s3.heap.objs.size (cellsFrom (s3.heap.objs.size + 1) scope.names (cloFrom X.env.cells scope.names [])) fp
  have pe := he s3 H3 s3.heap.objs.size (cellsFrom (s3.heap.objs.size + 1) scope.names (cloFrom X.env.cells scope.names [])) fp
  have pi1 := hi1 s3 H3 s3.heap.objs.size (cellsFrom (s3.heap.objs.size + 1) scope.names (cloFrom X.env.cells scope.names [])) fp
  have pg1 := hg1 s3 H3 s3.heap.objs.size (cellsFrom (s3.heap.objs.size + 1) scope.names (cloFrom X.env.cells scope.names [])) fp
  generalize hce : compEnvC scope (cellsFrom (s3.heap.objs.size + 1) scope.names (cloFrom X.env.cells scope.names [])) s3.heap.objs.size X.env = ce at I4 pg pe pi1 pg1 ⊢
  have cL : ce.locals = s3.heap.objs.size := by subst hce; rfl
  generalize hs4 : ({ s3 with heap := pushCells (s3.heap.push { cls := .type "dict", data := .dict #[] }) scope.names } : Shared) = s4 at I4 ⊢
  have st4 : tn 0 s4.heap := T.keep _ _ _ st2 fun b _ o e => by rw [← hs4]; exact keep4 b o e
  have nfp : ∀ b ∈ fp, H3 b = none := fun b hb => (f3 b hb).1.1
  have fY : ∀ b ∈ fp, FpOk (X.blk s3 H3 scope ce fp) [] H3 b := fun b hb =>
    ⟨nfp b hb, (I4.ok.exf b hb).1, I4.ok.exfs b hb, .inl hb, fun x c e => (I4.ok.exf b hb).2 x c e, fun p hp => absurd (show p ∈ ([] : List (Addr × Obj)) ++ [] from hp) (by simp)⟩
  have loop : codeAny (model X.prog X.w) X.A (.compLoop (.SetComp elt [⟨t0, i0, [], 0⟩, ⟨t1, i1, [], 0⟩] scope pos) 0 (.ref it) (.ref D) ce) (compPost (model X.prog X.w) X.A X.xe none (fun v s' => ∃ x H', Inv X pins σ H' s' ∧ RelV x v ∧ Q x H') (.ref D) s3.heap.objs.size) s4 := by
    refine clause (Y := X.blk s3 H3 scope ce fp) rfl hc rfl rfl (turn_0 elt t0 i0 t1 i1 scope pos (.ref it) (.ref D) ce) T pg ?_ rd ?_ I4 st4 fY w0
    · intro pins' s5 σ5 H5 Nx I5 q5
      obtain ⟨hw5, q5⟩ := q5
      refine wpAny_bind (thnF (pi1.run _ s5 σ5 H5 _ I5 q5) fun xv s6 hx => ?_)
      refine wpAny_bind (wpAny_standAt (wpAny_bind (wpAny_of_eq (hs1 ce xv) (wpAny_bind (wpAny_holding (thnF hx fun itv s7 h7 => ?_))))))
      obtain ⟨it1, fp1, tn1, J1, H7, rfl, I7, T1, st7, f7, W1, ⟨m1, w1⟩, rd1⟩ := h7
      refine wpAny_bind (wpAny_runOwn ?_)
      rw [Around.mark_none]
      have loop1 : codeAny (model X.prog X.w) X.A (.compLoop (.SetComp elt [⟨t0, i0, [], 0⟩, ⟨t1, i1, [], 0⟩] scope pos) 1 (.ref it1) (.ref D) ce)
          (fun r s' => match r with
            | .ok _ => ∃ σ3 H', Inv (X.blk s3 H3 scope ce fp) pins' σ3 H' s' ∧ Kn (wipe σ (own.map (·.2))) σ3 ∧ Nx H'
            | .error _ => False) s7 := by
        refine clause (Y := X.blk s3 H3 scope ce fp) rfl hc rfl rfl (turn_1 elt t0 i0 t1 i1 scope pos (.ref it1) (.ref D) ce) T1 pg1 (σ0 := wipe σ5 vs1) ?_ rd1 (fun s9 H9 I9 q9 => ⟨_, H9, I9, kn_in hw5 hv, q9⟩) (Inv.known I7 (kn_wipe rfl)) st7 f7 w1
        intro pins8 s8 σ8 H8 Nx1 I8 q8
        obtain ⟨hw8, q8⟩ := q8
        refine wpAny_bind (thnF (pe.run _ s8 σ8 H8 _ I8 q8) fun v s9 ⟨y, H9, I9, r9, x, l, ey, hD9, room, nx⟩ => ?_)
        subst ey
        obtain ⟨u, rfl⟩ := r9
        refine wpAny_bind (wpAny_standAt (wpAny_bind ?_))
        exact add_text (Y := X.blk s3 H3 scope ce fp) I9 hD9 room fun s10 I10 => wpAny_pure ⟨σ8, _, I10, kn_wipe hw8, nx⟩
      refine codeAny_mono (start_1 loop1 (T1.self X.A 0 _ _ _ st7 loop1)) fun r s' hr => ?_
      cases r with
      | ok f => exact wpAny_pure hr
      | error e => exact hr.elim
    · intro s6 H6 I6 q6
      have I7 : Inv X pins σ H6 s6 := I3.call' (ch := fp) I6.os I6.base I6.hok I6.bare fun b hb => ⟨(f3 b hb).1.2.2.2.1, (f3 b hb).1.2.1, (f3 b hb).1.2.2.2.2.1, (f3 b hb).1.2.2.2.2.2⟩
      have nC : H6 s3.heap.objs.size = none := by
        have z : H6 ce.locals = none := I6.free
        rw [cL] at z
        exact z
      obtain ⟨m, hn, _⟩ := I6.loc
      have hn : s6.heap.Ns ce.locals m := hn
      rw [cL] at hn
      obtain ⟨a0, a1, a2, a3, a4, a5⟩ := I3.fpOk (Nat.le_refl _) nC
      exact ⟨m, hn, fun h'' sb => ⟨.ref D, H6, I7.turned (t' := s6.toks) (fun b o hb e => (sb.2 b hb).trans e) a0 a1 a3 a4 a5, rfl, q6⟩⟩
  exact PpSet.codeAny_compStart_set loop (T.self X.A 0 _ _ _ st4 loop)
end
end FR
set_option Elab.async false
set_option linter.all false
set_option maxRecDepth 100000
set_option maxHeartbeats 4000000
/-! not in an own object; a list's slice by a step of one or minus one; sum(lists, start=[]) -/
namespace FR
open PySem PySem.Spec PyProof.Rows
section
open L2
variable {X : Cx} {C g : Addr} {n : Nat} {sp : Sp} {CX : CXT} {E : XK}
def rNotInI (C : Addr) (sp : Sp) (E : XK) : R2 := fun x y H Q => ∃ a dx fs, y = .ref a ∧ H a = some (.ins C dx fs) ∧ sp [y, x] H (fun z H' => ∃ b, z = .bl b ∧ Q (.bl (!b)) H') E
theorem op_notInI (hs : PySem.W.findIn X.K (.ref C) "__contains__" = some (some (.ref g))) (hf : PySem.W.isFn X.K (.ref g) = true) (F : FnR X.prog X.w X.K X.mg X.base CX n g sp)
    (hr : Room n X.A) (hx : Passes CX X E) : OpR X (compareOp .NotIn) (rNotInI C sp E) := by
  intro pins s σ H x y v u Q I rx ry h
  obtain ⟨a, dx, fs, rfl, ha, q⟩ := h
  cases (show u = Value.ref a from ry)
  obtain ⟨od, J⟩ := ins_inst I ha
  obtain ⟨m, hF⟩ := I.fr
  refine PySem.W.notIn_K hF I.ok.mod.kin J hs hf (wpAny_mono (wpAny_call (run_fnR (us := [.ref a, v]) (vs := [.ref a, x]) F hr hx I (.cons rfl (.cons rx .nil)) q)) (fun w s' z => ?_) fun _ _ x => x)
  obtain ⟨z', H', I', rz, b, eb, qz⟩ := z
  subst eb
  cases (show w = Value.bool b from rz)
  exact wpAny_truthy_bool ⟨.bl (!b), H', I', rfl, qz⟩
/-- xs[::k], k one or minus one -/
def tStepL (K : PySem.W.Frag) (te : TE) (tp : L2.St → Hp → (Option Int → Hp → Prop) → Prop) : TE := fun σ H Q => te σ H fun x H1 => ∃ a xs, x = .ref a ∧ SqL K H1 a xs ∧ tp σ H1 fun o H2 => SqL K H2 a xs ∧
  ((o = some 1 ∧ ∀ p, H2 p = none → Q (.ref p) (upd H2 p (.lst xs))) ∨ (o = some (-1) ∧ ∀ p, H2 p = none → Q (.ref p) (upd H2 p (.lst xs.reverse))))
theorem pick_all (items : Array Value) : slicePick items none none (some 1) = items := by
  have e : sliceBounds none none (some 1) items.size = (0, (items.size : Int), 1) := by first | rfl | simp [sliceBounds]
  unfold slicePick
  rw [e]
  have h1 := sliceRange_one 0 items.size
  have h2 := pick_run items 0 items.size
  simp only [Nat.sub_zero] at h1
  show ((sliceRange 0 (items.size : Int) 1).filterMap (items[·]?)).toArray = items
  rw [show sliceRange 0 (items.size : Int) 1 = (List.range items.size).map (0 + ·) from h1, h2, List.drop_zero, List.take_of_length_le (by rw [Array.length_toList]; exact Nat.le_refl _), Array.toArray_toList]
theorem pe_stepL {e se : Expr} {te : TE} {tp : L2.St → Hp → (Option Int → Hp → Prop) → Prop} {p3 pos : Pos} (he : PE X e te) (hp : PO X (some se) tp) (hops : ∀ v w, subscripted (.Slice none none (some se) p3) false v w = operate [v, w] (getItem v w) := by intro _ _; with_unfolding_all rfl) :
    PE X (.Subscript e (.Slice none none (some se) p3) pos) (tStepL X.K te tp) := by
  refine ⟨fun pins s σ H Q I h => ?_⟩
  refine Subscript_ (thn (he.run pins s σ H _ I h) fun v s1 ⟨x, H1, I1, r1, q1⟩ => ?_)
  obtain ⟨a, xs, ex, hx, q⟩ := q1
  subst ex
  cases r1
  refine wpAny_Slice (thn (po_none.run pins s1 σ H1 (fun o H2 => o = none ∧ H2 = H1) I1 ⟨rfl, rfl⟩) fun vl s2 ⟨l, H2, I2, pl, el, e2⟩ => ?_)
  subst el e2
  refine thn (po_none.run pins s2 σ H2 (fun o H3 => o = none ∧ H3 = H2) I2 ⟨rfl, rfl⟩) fun vu s3 ⟨u, H3, I3, pu, eu, e3⟩ => ?_
  subst eu e3
  refine thn (hp.run pins s3 σ H3 _ I3 q) fun vs s4 ⟨o, H4, I4, ps, hx4, q4⟩ => ?_
  have I5 : Inv X pins σ H4 { s4 with heap := s4.heap.push { cls := .type "slice", data := .fields #[vl, vu, vs] } } := I4.kept (t' := s4.toks) fun b ob q => Heap.get?_push_of_some _ q
  obtain ⟨its, r, ht, hz⟩ := I5.list hx4
  have hlen := r.length
  show wpAny (model X.prog X.w) X.A (subscriptTail e (.Slice none none (some se) p3) (.ref a) (.ref s4.heap.objs.size)) (EP X pins σ Q) X.xe { s4 with heap := s4.heap.push { cls := .type "slice", data := .fields #[vl, vu, vs] } }
  refine tail_any (ops := [.ref a, .ref s4.heap.objs.size]) ht.isList.typeIs (PySem.slot_list_getitem.lookup) ?_ (hops _ _)
  rcases q4 with ⟨rfl, q4⟩ | ⟨rfl, q4⟩
  · refine wpAny_getItem_list_slice ht.isList (Heap.IsSliceOf.new _ vl vu vs) pl pu ps (by decide) ?_ (by rw [List.size_toArray]; omega)
    rw [pick_all]
    refine ⟨.ref _, _, I5.laid (t' := s4.toks) (o := .lst xs) (fun b ob q => Heap.get?_push_of_some _ q) (Nat.le_refl _) ?_, rfl, q4 _ (I5.hok.fresh (Nat.le_refl _))⟩
    exact ⟨hz, _, 0, r, Heap.get?_push_size _ rfl⟩
  · refine wpAny_getItem_list_slice ht.isList (Heap.IsSliceOf.new _ vl vu vs) pl pu ps (by decide) ?_ (by rw [List.size_toArray]; omega)
    rw [PySem.W.krv_pick]
    refine ⟨.ref _, _, I5.laid (t' := s4.toks) (o := .lst xs.reverse) (fun b ob q => Heap.get?_push_of_some _ q) (Nat.le_refl _) ?_, rfl, q4 _ (I5.hok.fresh (Nat.le_refl _))⟩
    exact ⟨by rw [List.length_reverse]; exact hz, _, 0, r.reverse, Heap.get?_push_size _ rfl⟩
end
section
variable {prog : Program} {w : World} {A : Around}
/-- the lists of a list, one behind the other -/
theorem sum_go {R : Result → Shared → Prop} {I S l : Addr} {items : Array Value} (hh : A.handled = none) (nSI : S ≠ I) (nSl : S ≠ l) (nlI : l ≠ I) :
    ∀ (rest : List (Addr × List Value)) (i : Nat) (s : Shared) (t : Addr) (tot : List Value) (n c : Nat), items.toList.drop i = rest.map (fun q => Value.ref q.1) → i ≤ items.size → s.heap.IsListIter I l i → s.heap.IsList l items →
      IsL s.heap S #[.ref t] c → IsL s.heap t tot.toArray n → (∀ q ∈ rest, ∃ k, IsL s.heap q.1 q.2.toArray k) → t ≠ S → t ≠ I → (∀ q ∈ rest, q.1 ≠ S ∧ q.1 ≠ I) → tot.length + (rest.map (·.2.length)).sum ≤ sizeLine →
      (∀ (h' : Heap) (tk : Nat) (t' : Addr) (k : Nat), IsL h' t' (tot ++ (rest.map (·.2)).flatten).toArray k → (∀ b o, b ≠ S → b ≠ I → s.heap.get? b = some o → h'.get? b = some o) → (rest = [] → t' = t) → (rest ≠ [] → s.heap.objs.size ≤ t') → R (.ok (.ret (.ref t'))) { s with heap := h', toks := tk }) →
      codeAny (model prog w) A (.builtin "sum.loop" ⟨[.ref I, .ref S, rawInt 2, rawInt 0], []⟩) R s
  | [], i, s, t, tot, n, c, dr, hi, it, hl, hS, ht, _, _, _, _, _, q => by
    have e : items.toList[i]? = none := by
      rw [← List.head?_drop, dr]; rfl
    refine codeAny_builtin F.entry_sum_loop ?_
    rw [Around.under_plainId F.plain_sum_loop _]
    show wpAny _ A.in1 (seqItems? (.ref S) >>= _) _ _ s
    refine wpAny_bind (wpAny_seqItems hS rfl ?_)
    show wpAny _ A.in1 (tryCatch (pyNext (.ref I)) _ >>= _) _ _ s
    refine wpAny_bind (wpAny_tryCatch (wpAny_pyNext_list_end (by simp [hh]) it hl (by rw [← Array.getElem?_toList]; exact e) fun h' he => ?_))
    refine wpAny_pure (q h' s.toks t n (by simpa using he t _ (by assumption) ht) (fun b o n1 n2 e => he b o n2 e) (fun _ => rfl) (fun h => absurd rfl h))
  | (b, ys) :: rest, i, s, t, tot, n, c, dr, hi, it, hl, hS, ht, hr, ntS, ntI, nr, bound, q => by
    have hx : items[i]? = some (.ref b) := by
      rw [← Array.getElem?_toList, ← List.head?_drop, dr]; rfl
    have dr2 : items.toList.drop (i + 1) = rest.map (fun q => Value.ref q.1) := by
      rw [← List.tail_drop, dr]; rfl
    have lt : i < items.size := (Array.getElem?_eq_some_iff.mp hx).1
    obtain ⟨kb, hb⟩ := hr (b, ys) (List.mem_cons_self ..)
    obtain ⟨nbS, nbI⟩ := nr (b, ys) (List.mem_cons_self ..)
    simp only [List.map_cons, List.sum_cons] at bound
    refine codeAny_builtin F.entry_sum_loop ?_
    rw [Around.under_plainId F.plain_sum_loop _]
    show wpAny _ A.in1 (seqItems? (.ref S) >>= _) _ _ s
    refine wpAny_bind (wpAny_seqItems hS rfl ?_)
    show wpAny _ A.in1 (tryCatch (pyNext (.ref I)) _ >>= _) _ _ s
    refine wpAny_bind (wpAny_tryCatch (wpAny_pyNext_list_item it hl hx fun h1 it1 sb => ?_))
    have k1 : ∀ a o, a ≠ I → s.heap.get? a = some o → h1.get? a = some o := fun a o ne e => (sb.2 a ne).trans e
    show wpAny _ A.in1 ((holding [Value.ref b] (binaryOp .Add (.ref t) (.ref b))).attempt >>= _) _ _ _
    refine wpAny_bind (wpAny_attempt (wpAny_holding (P.add_list (s := { s with heap := h1 }) (k1 t _ ntI ht) (k1 b _ nbI hb) ?_ (by simp only [List.size_toArray]; omega))))
    have eq : tot.toArray ++ ys.toArray = (tot ++ ys).toArray := by simp
    rw [eq]
    show wpAny _ A.in1 (updateSeq S (fun _ => #[.ref h1.objs.size]) >>= _) _ _ _
    have hS1 : IsL (h1.push { cls := .type "list", data := .seq (tot ++ ys).toArray }) S #[.ref t] c := Heap.get?_push_of_some _ (k1 S _ nSI hS)
    have lS1 := Heap.lt_size (k1 S _ nSI hS)
    refine wpAny_bind (wpAny_updateSeq hS1 rfl ?_)
    have hS2 := Heap.get?_update_self (Obj.mapSeq fun _ => #[Value.ref h1.objs.size]) hS1 rfl
    refine wpAny_bind (wpAny_letGo ?_)
    show wpAny _ A.in1 (updateSeq S (fun _ => #[.ref h1.objs.size]) >>= _) _ _ _
    refine wpAny_bind (wpAny_updateSeq hS2 rfl ?_)
    have hS3 := Heap.get?_update_self (Obj.mapSeq fun _ => #[Value.ref h1.objs.size]) hS2 rfl
    have sz : s.heap.objs.size ≤ h1.objs.size := Nat.le_of_eq sb.1.symm
    have keep : ∀ a o, a ≠ S → a ≠ I → s.heap.get? a = some o → ((((h1.push { cls := .type "list", data := .seq (tot ++ ys).toArray }).update S (Obj.mapSeq fun _ => #[Value.ref h1.objs.size])).update S (Obj.mapSeq fun _ => #[Value.ref h1.objs.size]))).get? a = some o := fun a o n1 n2 e =>
      (Heap.get?_update_other _ _ (Ne.symm n1)).trans ((Heap.get?_update_other _ _ (Ne.symm n1)).trans (Heap.get?_push_of_some _ (k1 a o n2 e)))
    have nt : h1.objs.size ≠ S := Nat.ne_of_gt lS1
    have nI : h1.objs.size ≠ I := by
      obtain ⟨oI, hI, _⟩ := it1
      exact Nat.ne_of_gt (Heap.lt_size hI)
    refine wpAny_pure ⟨plainId_quiet F.plain_sum_loop _, sum_go hh nSI nSl nlI rest (i + 1) _ h1.objs.size (tot ++ ys) 0 _ dr2 lt ?_ ?_ hS3 ?_ (fun z hz => ?_) nt nI (fun z hz => nr z (List.mem_cons_of_mem _ hz)) (by rw [List.length_append]; omega) fun h' tk t' k hL kk e1 e2 => ?_⟩
    · exact it1.at fun o e => (Heap.get?_update_other _ _ nSI).trans ((Heap.get?_update_other _ _ nSI).trans (Heap.get?_push_of_some _ e))
    · exact hl.at fun o e => keep l o (Ne.symm nSl) nlI e
    · exact (Heap.get?_update_other _ _ (Ne.symm nt)).trans ((Heap.get?_update_other _ _ (Ne.symm nt)).trans (Heap.get?_push_size _ rfl))
    · obtain ⟨kz, hz2⟩ := hr z (List.mem_cons_of_mem _ hz)
      obtain ⟨n1, n2⟩ := nr z (List.mem_cons_of_mem _ hz)
      exact ⟨kz, keep _ _ n1 n2 hz2⟩
    · refine q h' tk t' k ?_ (fun a o n1 n2 e => kk a o n1 n2 (keep a o n1 n2 e)) (fun h => nomatch h) fun _ => ?_
      · rw [List.map_cons, List.flatten_cons, ← List.append_assoc]; exact hL
      · by_cases hrest : rest = []
        · rw [e1 hrest]; exact sz
        · refine Nat.le_trans sz (Nat.le_trans ?_ (e2 hrest))
          rw [Heap.size_update, Heap.size_update, Heap.size_push]
          exact Nat.le_succ _
end
end FR
set_option Elab.async false
set_option linter.all false
set_option maxRecDepth 100000
set_option maxHeartbeats 4000000
/-! sum(lists, start=[]) -/
namespace FR
open PySem PySem.Spec PyProof.Rows
section
variable {prog : Program} {w : World} {A : Around} {E : Value → Shared → Prop} {s : Shared}
theorem sum_args (a b : Value) : argsOk "sum" ⟨[a], [(Str.ofString "start", b)]⟩ := by unfold argsOk; kernel_rfl
theorem sum_check (a b : Value) : checkBuiltinCall "sum" ⟨[a], [(Str.ofString "start", b)]⟩ = pure () := by
  have ha := sum_args a b
  simp only [checkBuiltinCall, F.kind_sum]
  cases hsig : Manifest.signature? "sum" with
  | none => rfl
  | some sig =>
    simp only [argsOk, hsig] at ha
    exact ha
theorem call_sum_lists {l z : Addr} {items : Array Value} {nz : Nat} {rest : List (Addr × List Value)} {Q : Value → Shared → Prop} (hh : A.handled = none) (hl : s.heap.IsList l items) (hi : items.toList = rest.map fun q => Value.ref q.1) (hz : IsL s.heap z #[] nz)
    (hr : ∀ q ∈ rest, ∃ k, IsL s.heap q.1 q.2.toArray k) (ne : rest ≠ []) (bound : (rest.map (·.2.length)).sum ≤ sizeLine)
    (h : ∀ (h' : Heap) (tk : Nat) (t : Addr) (k : Nat), IsL h' t ((rest.map (·.2)).flatten).toArray k → (∀ b o, s.heap.get? b = some o → h'.get? b = some o) → s.heap.objs.size ≤ t → Q (.ref t) { s with heap := h', toks := tk }) :
    wpAny (model prog w) A (call (.builtin "sum") [.ref l] [(Str.ofString "start", .ref z)]) Q E s := by
  refine wpAny_call (codeAny_call_builtin F.plain_sum F.entry_sum ?_)
  show wpAny _ _ (checkBuiltinCall "sum" ⟨[.ref l], [(Str.ofString "start", .ref z)]⟩) _ _ s
  rw [sum_check]
  refine wpAny_pure ?_
  unfold Builtin.«sum»
  simp only [List.length_cons, List.length_nil]
  rw [if_neg (by decide)]
  refine wpAny_bind (wpAny_of_eq (show Builtin.Builtins.bindParams "sum" ["start"] 0 ⟨[], [(Str.ofString "start", Value.ref z)]⟩ = pure [some (.ref z)] from rfl) ?_)
  refine wpAny_bind (wpAny_pyIter_list hl ?_)
  refine wpAny_bind (wpAny_pure ?_)
  have hz1 : IsL (s.heap.push { cls := .type "list_iterator", data := .fields #[.ref l, .int 0 0] }) z #[] nz := hz.push _
  have tz : Shared.TypeIs { s with heap := s.heap.push { cls := .type "list_iterator", data := .fields #[.ref l, .int 0 0] } } (.ref z) "list" := ⟨_, hz1, rfl⟩
  simp only [List.forIn_cons, List.forIn_nil]
  refine wpAny_bind (wpAny_bind (wpAny_bind (wpAny_isInstance (T := "list") (b := false) tz F.sub_list_str ?_)))
  simp only [Bool.false_eq_true, if_false]
  refine wpAny_pure (wpAny_bind (wpAny_bind (wpAny_isInstance (T := "list") (b := false) tz F.sub_list_bytes ?_)))
  simp only [Bool.false_eq_true, if_false]
  refine wpAny_pure (wpAny_bind (wpAny_bind (wpAny_isInstance (T := "list") (b := false) tz F.sub_list_bytearray ?_)))
  simp only [Bool.false_eq_true, if_false]
  refine wpAny_pure (wpAny_pure ?_)
  refine wpAny_bind (wpAny_newObj_type ?_)
  have hl1 := hl.push { cls := .type "list_iterator", data := .fields #[.ref l, .int 0 0] }
  have sz1 : (s.heap.push { cls := .type "list_iterator", data := .fields #[.ref l, .int 0 0] }).objs.size = s.heap.objs.size + 1 := Heap.size_push ..
  have ll : l < s.heap.objs.size := by obtain ⟨o, ho, _⟩ := hl; exact Heap.lt_size ho
  have lz : z < s.heap.objs.size := Heap.lt_size hz
  refine wpAny_pure ⟨plainId_quiet F.plain_sum_loop _, sum_go (I := s.heap.objs.size) (S := (s.heap.push { cls := .type "list_iterator", data := .fields #[.ref l, .int 0 0] }).objs.size) (l := l) (items := items) hh
    (by rw [sz1]; exact Nat.succ_ne_self _) (by rw [sz1]; exact Nat.ne_of_gt (Nat.lt_succ_of_lt ll)) (Nat.ne_of_lt ll) rest 0 _ z [] nz 0 (by rw [List.drop_zero]; exact hi) (Nat.zero_le _)
    ⟨_, Heap.get?_push_of_some _ (Heap.get?_push_size _ rfl), rfl, rfl⟩ (hl1.push _) (Heap.get?_push_size _ rfl) (by simpa using hz1.push _) (fun q hq => ?_) (by rw [sz1]; exact Nat.ne_of_lt (Nat.lt_succ_of_lt lz)) (Nat.ne_of_lt lz) (fun q hq => ?_) (by simpa using bound) fun h' tk t k hL kk e1 e2 => ?_⟩
  · obtain ⟨k, hk⟩ := hr q hq
    exact ⟨k, (hk.push _).push _⟩
  · obtain ⟨k, hk⟩ := hr q hq
    have lq := Heap.lt_size hk
    exact ⟨by rw [sz1]; exact Nat.ne_of_lt (Nat.lt_succ_of_lt lq), Nat.ne_of_lt lq⟩
  · refine h h' tk t k (by simpa using hL) (fun b o e => ?_) ?_
    · have lb := Heap.lt_size e
      exact kk b o (by rw [sz1]; exact Nat.ne_of_lt (Nat.lt_succ_of_lt lb)) (Nat.ne_of_lt lb) (Heap.get?_push_of_some _ (Heap.get?_push_of_some _ e))
    · have := e2 ne
      refine Nat.le_trans ?_ this
      show s.heap.objs.size ≤ Array.size _
      rw [Heap.size_push, sz1]
      omega
end
section
open L2
variable {X : Cx}
theorem lists_of {pins : List (Addr × Obj)} {σ : L2.St} {H : Hp} {s : Shared} (I : Inv X pins σ H s) : ∀ ps : List (Addr × List V), (∀ p ∈ ps, H p.1 = some (.lst p.2)) →
    ∃ rest : List (Addr × List Value), rest.map (fun q => Value.ref q.1) = ps.map (fun q => Value.ref q.1) ∧ Vals (ps.map (·.2)).flatten (rest.map (·.2)).flatten ∧ (∀ q ∈ rest, ∃ k, IsL s.heap q.1 q.2.toArray k) ∧ rest.map (·.2.length) = ps.map (·.2.length)
  | [], _ => ⟨[], rfl, .nil, (fun q h => absurd h List.not_mem_nil), rfl⟩
  | (a, xs) :: ps, h => by
    obtain ⟨rest, e1, e2, e3, e4⟩ := lists_of I ps fun p hp => h p (List.mem_cons_of_mem _ hp)
    obtain ⟨_, its, n, r, hl, e⟩ := I.lstM (h (a, xs) (List.mem_cons_self ..))
    refine ⟨(a, its) :: rest, by rw [List.map_cons, List.map_cons, e1], by rw [List.map_cons, List.map_cons, List.flatten_cons, List.flatten_cons]; exact r.append e2, fun q hq => ?_, by rw [List.map_cons, List.map_cons, e4]; show its.length :: _ = xs.length :: _; rw [hl]⟩
    rcases List.mem_cons.mp hq with rfl | m
    · exact ⟨n, e⟩
    · exact e3 q m
def rSumL (K : PySem.W.Frag) : List V → List V → Hp → VK → Prop := fun vs zs H Q => ∃ (a z : Addr) (ps : List (Addr × List V)), vs = [.ref a] ∧ zs = [.ref z] ∧ SqL K H a (ps.map fun p => V.ref p.1) ∧ H z = some (.lst []) ∧ (∀ p ∈ ps, H p.1 = some (.lst p.2)) ∧ ps ≠ [] ∧ (ps.map (·.2.length)).sum ≤ 4000 ∧
  ∀ t, H t = none → Q (.ref t) (upd H t (.lst (ps.map (·.2)).flatten))
theorem cr_sumL (hc : X.calm = true) : CallRK X (.builtin "sum") [Str.ofString "start"] (rSumL X.K) := by
  intro pins s σ H vs zs us ws Q I r rz h
  obtain ⟨a, z, ps, rfl, rfl, hs, hz, hp, ne, b, q⟩ := h
  obtain rfl := Vals.ref1 r
  obtain rfl := Vals.ref1 rz
  obtain ⟨its, rv, hl, _⟩ := I.list hs
  obtain ⟨rest, e1, e2, e3, e4⟩ := lists_of I ps hp
  obtain ⟨_, iz, nz, rz0, lz, ez⟩ := I.lstM hz
  have iz0 : iz = [] := List.length_eq_zero_iff.mp lz.symm
  subst iz0
  have ie : its = rest.map fun q => Value.ref q.1 := by
    rw [e1]
    have : ∀ (qs : List (Addr × List V)) (us : List Value), Vals (qs.map fun p => V.ref p.1) us → us = qs.map fun q => Value.ref q.1 := fun qs => by
      induction qs with
      | nil => intro us h; cases h; rfl
      | cons p t ih =>
        intro us h
        rw [List.map_cons] at h
        cases h with
        | cons r1 rr => rw [List.map_cons, ih _ rr]; cases r1; rfl
    exact this ps its rv
  have len : ((ps.map (·.2)).flatten).length ≤ sizeLine := by
    rw [List.length_flatten, List.map_map]
    exact Nat.le_trans b (by decide)
  show wpAny _ _ (call (.builtin "sum") [.ref a] [(Str.ofString "start", .ref z)]) _ _ _
  refine call_sum_lists (rest := rest) (I.ok.hd hc) hl.isList (by simpa using ie) ez e3 (fun e => ne ?_) (by rw [e4]; exact Nat.le_trans b (by decide)) fun h' tk t k hL kk hge => ?_
  · rw [e] at e1
    exact List.map_eq_nil_iff.mp e1.symm
  · have hn : H t = none := I.hok.fresh hge
    have J : Inv X pins σ (upd H t (.lst (ps.map (·.2)).flatten)) { s with heap := h', toks := tk } := I.laid (t' := tk) kk hge ⟨len, _, k, e2, hL⟩
    exact ⟨.ref t, _, J, rfl, q t hn⟩
end
end FR
set_option Elab.async false
set_option linter.all false
set_option maxRecDepth 100000
set_option maxHeartbeats 4000000
/-! == of dicts whose values are data; a method called by keywords; `in` within a block -/
namespace FR
open PySem PySem.Spec PyProof.Rows L2
def valD (ns : List (Key × PyData)) (k : Key) : Option PyData := (ns.find? fun q => decide (q.1 = k)).map (·.2)
def hitsD (ns : List (Key × PyData)) : List (Key × PyData) → Bool
  | [] => true
  | (k, d) :: r => match valD ns k with
    | none => false
    | some e => PyData.eqv d e && hitsD ns r
def eqDD (ms ns : List (Key × PyData)) : Bool := ms.length == ns.length && hitsD ns ms
/-- a dict's entries, their values data -/
def DpK (K : PySem.W.Frag) (H : Hp) : List (Key × V) → List (Key × PyData) → Prop := Paired fun kv m => kv.1 = m.1 ∧ Dp K H kv.2 m.2 ∧ SeqAt.shaped m.2 = true
theorem dpK_val {K : PySem.W.Frag} {H : Hp} {ks : List (Key × V)} {ms : List (Key × PyData)} (h : DpK K H ks ms) (k : Key) : (valV ks k = none ∧ valD ms k = none) ∨ ∃ v d, valV ks k = some v ∧ valD ms k = some d ∧ Dp K H v d ∧ SeqAt.shaped d = true := by
  induction h with
  | nil => exact .inl ⟨rfl, rfl⟩
  | @cons p m r t h hr ih =>
    obtain ⟨e, hd, hs⟩ := h
    by_cases c : p.1 = k
    · refine .inr ⟨p.2, m.2, valV_pos c, ?_, hd, hs⟩
      unfold valD
      rw [List.find?_cons_of_pos (by rw [← e]; exact decide_eq_true c)]; rfl
    · rw [valV_neg c]
      have : valD (m :: t) k = valD t k := by
        unfold valD
        rw [List.find?_cons_of_neg (by rw [← e]; simpa using c)]
      rw [this]
      exact ih
section
variable {X : Cx}
theorem hits_dd {A : Around} {pins : List (Addr × Obj)} {σ : L2.St} {H : Hp} {s : Shared} (I : Inv X pins σ H s) (hu : A.units + 64 < cLine) {ls : List (Key × V)} {ns : List (Key × PyData)} {vb : List (Key × Value)} (hb : DpK X.K H ls ns) (rb : KV ls vb) :
    ∀ {ks : List (Key × V)} {ms : List (Key × PyData)} {va : List (Key × Value)}, DpK X.K H ks ms → KV ks va → PySem.W.KeqHits A s vb va (hitsD ns ms)
  | _, _, _, .nil, .nil => .nil
  | (k, v) :: _, (k', d) :: ms, (k2, u) :: va, .cons h hr, .cons r rr => by
    obtain ⟨e, hd, hs⟩ := h
    obtain ⟨e2, rv⟩ := r
    obtain rfl : k = k' := e
    obtain rfl : k = k2 := e2
    have q := rb.val k
    rcases dpK_val hb k with ⟨h1, h2⟩ | ⟨v', d', h1, h2, hd', hs'⟩
    · rw [h1] at q
      have none2 : valueAt vb k = none := by
        cases z : valueAt vb k with
        | none => rfl
        | some y => rw [z] at q; exact q.elim
      show PySem.W.KeqHits A s vb ((k, u) :: va) (match valD ns k with | none => false | some e => PyData.eqv d e && hitsD ns ms)
      rw [h2]
      exact .miss none2
    · rw [h1] at q
      cases z : valueAt vb k with
      | none => rw [z] at q; exact q.elim
      | some y =>
        rw [z] at q
        show PySem.W.KeqHits A s vb ((k, u) :: va) (match valD ns k with | none => false | some e => PyData.eqv d e && hitsD ns ms)
        rw [h2]
        obtain ⟨as, r1⟩ := Dp.reads I d v u hd rv
        obtain ⟨bs, r2⟩ := Dp.reads I d' v' y hd' q
        exact .hit z (SeqAt.eqAt_reads d d' A s u y as bs r1 r2 (SeqAt.canLay_of_shaped hs) (SeqAt.canLay_of_shaped hs') (SeqAt.room_of_shaped hs hu)) (hits_dd I hu hb rb hr rr)
def rDD (K : PySem.W.Frag) (neg : Bool) : R2 := fun x y H Q => ∃ a b ks ls ms ns, x = .ref a ∧ y = .ref b ∧ Rd H a (.dK ks) ∧ Rd H b (.dK ls) ∧ DpK K H ks ms ∧ DpK K H ls ns ∧ Q (.bl (neg != eqDD ms ns)) H
theorem op_eqDD (hu : X.A.units + 65 < cLine) : OpR X (compareOp .Eq) (rDD X.K false) := by
  intro pins s σ H x y v u Q I rx ry h
  obtain ⟨a, b, ks, ls, ms, ns, rfl, rfl, ea, eb, hm, hn, q⟩ := h
  obtain rfl : v = Value.ref a := rx
  obtain rfl : u = Value.ref b := ry
  obtain ⟨_, ya, va, ra, da⟩ := dk_rd I.hok ea
  obtain ⟨_, yb, vb, rb, db⟩ := dk_rd I.hok eb
  refine PySem.W.keq_eq (knd := mixKind X.prog X.w) (r := hitsD ns ms) ya yb da db (by omega) (fun _ => hits_dd I (by simp; omega) hn rb hm ra) ⟨.bl _, H, I, rfl, ?_⟩
  have l1 : va.length = ms.length := ra.length.symm.trans (Paired.length hm)
  have l2 : vb.length = ns.length := rb.length.symm.trans (Paired.length hn)
  rw [l1, l2]
  have e : (false != eqDD ms ns) = (ms.length == ns.length && hitsD ns ms) := by
    show (false != eqDD ms ns) = eqDD ms ns
    cases eqDD ms ns <;> rfl
  rw [← e]
  exact q
theorem op_neDD (hu : X.A.units + 65 < cLine) : OpR X (compareOp .NotEq) (rDD X.K true) := by
  intro pins s σ H x y v u Q I rx ry h
  obtain ⟨a, b, ks, ls, ms, ns, rfl, rfl, ea, eb, hm, hn, q⟩ := h
  obtain rfl : v = Value.ref a := rx
  obtain rfl : u = Value.ref b := ry
  obtain ⟨_, ya, va, ra, da⟩ := dk_rd I.hok ea
  obtain ⟨_, yb, vb, rb, db⟩ := dk_rd I.hok eb
  refine PySem.W.keq_ne (knd := mixKind X.prog X.w) (r := hitsD ns ms) ya yb da db (by omega) (fun _ => hits_dd I (by simp; omega) hn rb hm ra) ⟨.bl _, H, I, rfl, ?_⟩
  have l1 : va.length = ms.length := ra.length.symm.trans (Paired.length hm)
  have l2 : vb.length = ns.length := rb.length.symm.trans (Paired.length hn)
  rw [l1, l2]
  have e : (true != eqDD ms ns) = (!(ms.length == ns.length && hitsD ns ms)) := by
    show (true != eqDD ms ns) = !eqDD ms ns
    cases eqDD ms ns <;> rfl
  rw [← e]
  exact q
theorem op_inTK {K : PySem.W.Frag} (hK : X.K = K) (hu : X.A.units + 65 < cLine) : OpR X (compareOp .In) (rInT K) := hK ▸ op_inT hu
end
section
variable {X : Cx} {o : Expr} {kws : List Keyword} {ta : TE} {tk : TA} {C f : Addr} {m : Str} {k : Nat} {fd : FuncData} {ps ks : List Str} {sp : Sp} {CX : CXT} {E : XK} {g : List Value → List Value → List Value} {gV : List V → List V → List V} {apos pos : Pos}
def tMethK (C : Addr) (m : Str) (nk : Nat) (sp : Sp) (gV : List V → List V → List V) (E : XK) (ta : TE) (tk : TA) : TE := fun σ H Q => ta σ H fun x H1 => ∃ a dx fs, x = .ref a ∧ H1 a = some (.ins C dx fs) ∧ fs.lookup m = none ∧ tk σ H1 fun zs H2 => zs.length = nk ∧ sp (gV [x] zs) H2 Q E
/-- o.m(k = v, ..) -/
theorem pe_methK0 {pl : Sem Bool} (he : PE X o ta) (c : Cls X.K C) (hm : Meth X.K C m f) (F : FnOk X.prog X.w X.K X.mg X.base CX k f fd ps sp) (hr : Room k X.A) (hb : KBn X.K fd ps 1 ks g gV) (hx : Passes CX X E) (hkw : PK X kws tk)
    (hall : (backToKw pos (keywordEach kws X.env)).all (·.1.isSome) = true := by rfl) (hks : (backToKw pos (keywordEach kws X.env)).filterMap (·.1) = ks := by rfl)
    (hpl : ((backTo pos (starEach [] X.env)).any (·.1) || (backToKw pos (keywordEach kws X.env)).any (·.1.isNone)) = false := by rfl)
    (ht : eval (.Call (.Attribute o m apos) [] kws pos) X.env = (do
      let ov ← eval o X.env
      standAt apos.atName
      let (f, first) ← holding [ov] (getMethod ov m pl)
      callWith pos f first (backTo pos (starEach [] X.env)) (backToKw pos (keywordEach kws X.env))) := by rfl) :
    PE X (.Call (.Attribute o m apos) [] kws pos) (tMethK C m ks.length sp gV E ta tk) := by
  refine ⟨fun pins s σ H Q I h => ?_⟩
  refine PySem.W.methodCall_KW (pl := pl) (thn (he.run pins s σ H _ I h) fun u s1 ⟨x, H1, I1, rx, a, dx, fs, ex, ea, l, q⟩ => ?_) ht
  subst ex
  obtain rfl : u = Value.ref a := rx
  refine getmeth_ok I1 ea c hm l ?_
  refine PySem.W.callWith_KW0 (h₀ := X.base) (first := [.ref a]) I1.ok.mod.kin hm.kp hall ?_ hpl
  refine thn (hkw.run pos pins s1 σ H1 _ I1 q) fun ws s2 ⟨zs, H2, I2, rz, l2, q2⟩ => ⟨I2.kIn, ?_⟩
  rw [hks]
  exact run_fnN (us := [.ref a]) (vs := [.ref a]) F hr hb hx I2 (.cons rfl .nil) rz rfl l2 q2
end
end FR
set_option Elab.async false
set_option linter.all false
set_option maxRecDepth 100000
/-! texts in order: one order alone -/
namespace FR
open PySem PySem.Spec PyProof.Rows
/-- a stands no later than b -/
def leS (a b : Str) : Prop := ltCps b.cps.toList a.cps.toList = false
theorem lt_trans' : ∀ {a b c : List Nat}, ltCps b a = false → ltCps c b = false → ltCps c a = false
  | [], [], [], _, _ => rfl
  | [], [], _ :: _, _, _ => rfl
  | [], _ :: _, [], _, h => by simp [ltCps] at h
  | [], _ :: _, _ :: _, _, _ => rfl
  | _ :: _, [], _, h, _ => by simp [ltCps] at h
  | _ :: _, _ :: _, [], _, h => by simp [ltCps] at h
  | x :: r, y :: t, z :: u, h1, h2 => by
    simp only [ltCps, Bool.or_eq_false_iff, decide_eq_false_iff_not, Bool.and_eq_false_iff, beq_eq_false_iff_ne, Nat.not_lt] at h1 h2 ⊢
    refine ⟨by omega, ?_⟩
    by_cases e : z = x
    · have e1 : y = x := by omega
      have e2 : z = y := by omega
      refine .inr (lt_trans' (h1.2.resolve_left fun n => n e1) (h2.2.resolve_left fun n => n e2))
    · exact .inl e
theorem lt_anti : ∀ {a b : List Nat}, ltCps b a = false → ltCps a b = false → a = b
  | [], [], _, _ => rfl
  | [], _ :: _, _, h => by simp [ltCps] at h
  | _ :: _, [], h, _ => by simp [ltCps] at h
  | x :: r, y :: t, h1, h2 => by
    simp only [ltCps, Bool.or_eq_false_iff, decide_eq_false_iff_not, Bool.and_eq_false_iff, beq_eq_false_iff_ne, Nat.not_lt] at h1 h2
    have e : x = y := by omega
    rw [e, lt_anti (h1.2.resolve_left fun n => n e.symm) (h2.2.resolve_left fun n => n e)]
theorem leS_anti {a b : Str} (h1 : leS a b) (h2 : leS b a) : a = b := by
  obtain ⟨⟨x⟩⟩ := a
  obtain ⟨⟨y⟩⟩ := b
  have := lt_anti h1 h2
  simp only at this
  rw [this]
theorem rising_pair : ∀ {p : Str} {l : List Str}, risingS p l = true → (p :: l).Pairwise leS
  | p, [], _ => by simp
  | p, x :: r, h => by
    simp only [risingS, Bool.and_eq_true, Bool.not_eq_true'] at h
    have ih := rising_pair h.2
    refine List.pairwise_cons.mpr ⟨fun y hy => ?_, ih⟩
    rcases List.mem_cons.mp hy with rfl | m
    · exact h.1
    · exact lt_trans' h.1 ((List.pairwise_cons.mp ih).1 y m)
theorem sorted_pair : ∀ {l : List Str}, sortedS l = true → l.Pairwise leS
  | [], _ => .nil
  | x :: r, h => rising_pair h
theorem sorted_one {xs ys : List Str} (h1 : sortedS xs = true) (h2 : sortedS ys = true) (p : xs.Perm ys) : xs = ys :=
  p.eq_of_pairwise (fun a b _ _ h h' => leS_anti h h') (sorted_pair h1) (sorted_pair h2)
/-- the texts in order -/
noncomputable def srt (xs : List Str) : List Str := open Classical in if h : ∃ ys : List Str, ys.Perm xs ∧ sortedS ys = true then Classical.choose h else []
theorem srt_eq {xs ys : List Str} (p : ys.Perm xs) (h : sortedS ys = true) : ys = srt xs := by
  unfold srt
  have e : ∃ ys : List Str, ys.Perm xs ∧ sortedS ys = true := ⟨ys, p, h⟩
  rw [dif_pos e]
  have c := Classical.choose_spec e
  exact sorted_one h c.2 (p.trans c.1.symm)
theorem srt_perm {xs ys zs : List Str} (p : ys.Perm xs) (h : sortedS ys = true) (q : xs.Perm zs) : srt xs = srt zs := by
  rw [← srt_eq p h, ← srt_eq (p.trans q) h]
section
open L2
variable {X : Cx} {tg : Expr}
def iSeq (K : PySem.W.Frag) (tl : TE) : TI := fun σ H R => tl σ H fun x H1 => ∃ a, x = .ref a ∧ ((∃ xs, SqL K H1 a xs ∧ R (Itl K a) H1) ∨ ∃ xs, SqT K H1 a xs ∧ R (Itt K a) H1)
/-- a list or a tuple, walked -/
theorem pi_seq {l : Expr} {tl : TE} (hl : PE X l tl) : PI X tg l (iSeq X.K tl) := by
  refine ⟨fun pins s σ H R I h => ?_⟩
  refine thn (hl.run pins s σ H _ I h) fun v s1 ⟨x, H1, I1, r1, q1⟩ => ?_
  obtain ⟨a, rfl, ⟨xs, hq, q⟩ | ⟨xs, hq, q⟩⟩ := q1
  · cases r1
    obtain ⟨its, rv, p, hz⟩ := I1.list hq
    exact wpAny_pyIter_list p.isList (pi_one I1 _ (turn_list a _) ⟨_, Heap.get?_push_size _ rfl, rfl, rfl⟩ q)
  · cases r1
    obtain ⟨its, rv, p, hz⟩ := I1.tuple hq
    exact wpAny_pyIter_tuple (show s1.heap.IsTuple a its.toArray from p) (pi_one I1 _ (turn_tuple a _) ⟨_, Heap.get?_push_size _ rfl, rfl, rfl⟩ q)
variable {J : It} {n : Nat} {G : Hp → Prop} {Y : Nat → Hp → V → Hp → Prop}
theorem round_it (w : Walk J n G Y) {g : TG} {σ0 : L2.St} {B : L2.St → Hp → (Hp → Prop) → Prop} {Qd : Hp → Prop} (Pv : Nat → Hp → Prop) (hG : ∀ i H, i ≤ n → Pv i H → G H)
    (hs : ∀ i x H H', i < n → Pv i H → Y i H x H' → g x σ0 H' fun σ2 H2 => B σ2 H2 (Pv (i + 1))) (hd : ∀ H, Pv n H → Qd H) : Round J g σ0 B Qd (fun i m H => m = n - i ∧ i ≤ n ∧ Pv i H) := by
  rintro i m H ⟨rfl, hi, p⟩
  have q := hG i H hi p
  by_cases lt : i < n
  · exact .inr ⟨w.goes i H lt q, Pv (i + 1), fun H' p' => ⟨n - (i + 1), by omega, rfl, lt, p'⟩, fun x H' y => hs i x H H' lt p (w.yields i H x H' lt q y)⟩
  · have e : i = n := by omega
    subst e
    exact .inl ⟨w.stops H q, hd H p⟩
theorem dc_it (w : Walk J n G Y) {g : TG} {tt : TT} {tk tv : TE} {vs : List Nat} {σ : L2.St} {H1 : Hp} {D : Addr} {Qd : Hp → Prop} (Pv : Nat → Hp → Prop) (h0 : Pv 0 (upd H1 D (.dK []))) (hG : ∀ i H, i ≤ n → Pv i H → G H)
    (hs : ∀ i x H H', i < n → Pv i H → Y i H x H' → g x (wipe σ vs) H' fun σ2 H2 => wipe σ2 vs = wipe σ vs ∧ tt σ2 H2 fun b H3 =>
      if b = true then tk σ2 H3 fun y H4 => tv σ2 H4 fun z H5 => ∃ kvs k, y = kV k ∧ H5 D = some (.dK kvs) ∧ kvs.length < sizeLine ∧ Pv (i + 1) (upd H5 D (.dK (putK kvs k z))) else Pv (i + 1) H3) (hd : ∀ H, Pv n H → Qd H) :
    ∃ W : Nat → Nat → Hp → Prop, (∃ m, W 0 m (upd H1 D (.dK []))) ∧ ∀ i m H, W i m H →
      (J.stop i H ∧ Qd H) ∨ (J.go i H ∧ ∃ Nx : Hp → Prop, (∀ H', Nx H' → ∃ m', m' < m ∧ W (i + 1) m' H') ∧ ∀ x H', J.yld i H x H' → g x (wipe σ vs) H' fun σ2 H2 => wipe σ2 vs = wipe σ vs ∧ tt σ2 H2 fun b H3 =>
        if b = true then tk σ2 H3 fun y H4 => tv σ2 H4 fun z H5 => ∃ kvs k, y = kV k ∧ H5 D = some (.dK kvs) ∧ kvs.length < sizeLine ∧ Nx (upd H5 D (.dK (putK kvs k z))) else Nx H3) :=
  ⟨fun i m H => m = n - i ∧ i ≤ n ∧ Pv i H, ⟨n, by simp, Nat.zero_le _, h0⟩, fun i m H ⟨e, hi, p⟩ => by
    subst e
    have q := hG i H hi p
    by_cases lt : i < n
    · exact .inr ⟨w.goes i H lt q, Pv (i + 1), fun H' p' => ⟨n - (i + 1), by omega, rfl, lt, p'⟩, fun x H' y => hs i x H H' lt p (w.yields i H x H' lt q y)⟩
    · have e : i = n := by omega
      subst e
      exact .inl ⟨w.stops H q, hd H p⟩⟩
/-- a lock taken off again leaves nothing -/
theorem keep_lock {H H' : Hp} {d : Addr} {u : HO} {od : Obj} {M : List Addr} (hd : H d = some u) (k : Keep M (upd H d (.frz od u)) H') : Keep M H (upd H' d u) := fun b o e hb => by
  by_cases c : b = d
  · subst c
    rw [upd_same]
    rw [hd] at e
    exact e
  · rw [upd_ne c]
    exact k b o (by rw [upd_ne c]; exact e) hb
end
end FR
set_option Elab.async false
set_option linter.all false
set_option maxRecDepth 100000
/-! rules for within a block: the written part of the context is given by hand -/
namespace FR
open PySem PySem.Spec PyProof.Rows L2
section
variable {X : Cx} {K : PySem.W.Frag} {e : Expr} {f : Str} {pos : Pos} {ta : TE} {tg : Expr}
theorem pe_fldK (h : X.K = K) (he : PE X e ta) (hb : attributeBase e f X.env (eval e X.env) = eval e X.env) : PE X (.Attribute e f pos) (tFld K ta f) := h ▸ pe_fld he hb
theorem pi_tupK (h : X.K = K) (he : PE X e ta) : PI X tg e (iTup K ta) := h ▸ pi_tup he
theorem pi_listK (h : X.K = K) (he : PE X e ta) : PI X tg e (iList K ta) := h ▸ pi_list he
def rTupOf (K : PySem.W.Frag) : List V → Hp → VK → Prop := fun xs H Q => ∃ p ys, xs = [.ref p] ∧ ((SqL K H p ys ∧ ∀ l, H l = none → Q (.ref l) (upd H l (.tup ys))) ∨ (SqT K H p ys ∧ Q (.ref p) H))
theorem call_tuple_ofK (h : X.K = K) : CallR X (.type "tuple") (rTupOf K) := h ▸ call_tuple_of
theorem call_lofNK (h : X.K = K) : CallR X (.type "list") (rLofN K) := h ▸ call_lofN
end
end FR
set_option Elab.async false
set_option linter.all false
set_option maxRecDepth 100000
set_option maxHeartbeats 8000000
local macro_rules | `(tactic| walk_at "sq") => `(tactic| first
  | (refine' FR.Ow.sq (i := 0) ?w ?e; (case w => assumption); (case e => rfl))
  | (refine' FR.Ow.sq (i := 1) ?w ?e; (case w => assumption); (case e => rfl))
  | (refine' FR.Ow.sq (i := 2) ?w ?e; (case w => assumption); (case e => rfl))
  | (refine' FR.Ow.sq (i := 3) ?w ?e; (case w => assumption); (case e => rfl))
  | (refine' FR.Ow.sq (i := 4) ?w ?e; (case w => assumption); (case e => rfl))
  | (refine' FR.Ow.sq (i := 5) ?w ?e; (case w => assumption); (case e => rfl))
  | (refine' FR.Ow.sq (i := 6) ?w ?e; (case w => assumption); (case e => rfl))
  | (refine' FR.Ow.sq (i := 7) ?w ?e; (case w => assumption); (case e => rfl))
  | (refine' FR.Ow.sq (i := 8) ?w ?e; (case w => assumption); (case e => rfl))
  | (refine' FR.Ow.sq (i := 9) ?w ?e; (case w => assumption); (case e => rfl))
  | (refine' FR.Ow.sq (i := 10) ?w ?e; (case w => assumption); (case e => rfl))
  | (refine' FR.Ow.sq (i := 11) ?w ?e; (case w => assumption); (case e => rfl))
  | (refine' FR.Ow.sq (i := 12) ?w ?e; (case w => assumption); (case e => rfl))
  | (refine' FR.Ow.sq (i := 13) ?w ?e; (case w => assumption); (case e => rfl))
  | assumption)
local macro_rules | `(tactic| walk_at "hp") => `(tactic| first
  | (refine' FR.Ow.get (i := 0) ?w ?e; (case w => assumption); (case e => rfl))
  | (refine' FR.Ow.get (i := 1) ?w ?e; (case w => assumption); (case e => rfl))
  | (refine' FR.Ow.get (i := 2) ?w ?e; (case w => assumption); (case e => rfl))
  | (refine' FR.Ow.get (i := 3) ?w ?e; (case w => assumption); (case e => rfl))
  | (refine' FR.Ow.get (i := 4) ?w ?e; (case w => assumption); (case e => rfl))
  | (refine' FR.Ow.get (i := 5) ?w ?e; (case w => assumption); (case e => rfl))
  | (refine' FR.Ow.get (i := 6) ?w ?e; (case w => assumption); (case e => rfl))
  | (refine' FR.Ow.get (i := 7) ?w ?e; (case w => assumption); (case e => rfl))
  | (refine' FR.Ow.get (i := 8) ?w ?e; (case w => assumption); (case e => rfl))
  | (refine' FR.Ow.get (i := 9) ?w ?e; (case w => assumption); (case e => rfl))
  | (refine' FR.Ow.get (i := 10) ?w ?e; (case w => assumption); (case e => rfl))
  | (refine' FR.Ow.get (i := 11) ?w ?e; (case w => assumption); (case e => rfl))
  | (refine' FR.Ow.get (i := 12) ?w ?e; (case w => assumption); (case e => rfl))
  | (refine' FR.Ow.get (i := 13) ?w ?e; (case w => assumption); (case e => rfl))
  | assumption)
local macro_rules | `(tactic| walk_at "ar") => `(tactic| first | assumption | omega | decide)
local macro_rules | `(tactic| walk_at "cd") => `(tactic| first
  | assumption | (with_reducible rfl) | exact (rfl : List.length _ = _) | (dsimp only; walk_at "ar") | walk_at "ar"
  | (refine And.intro (a := (_ : Int) < _) ?_ ?_ <;> walk_at "ar")
  | (refine And.intro (a := (0 : Int) ≤ _) ?_ (And.intro ?_ ?_) <;> walk_at "ar")
  | exact FR.size_le (by omega) | exact FR.size_ok (by omega)
  | (refine Or.inl (And.intro ?_ ?_) <;> walk_at "ar")
  | (refine Or.inr (And.intro ?_ ?_) <;> walk_at "ar"))
local macro_rules | `(tactic| walk_at "ty") => `(tactic| first
  | exact L2.TyOf.int _
  | exact L2.TyOf.str _
  | exact L2.TyOf.bl _
  | exact L2.TyOf.non
  | (refine' L2.TyOf.lst ?e; (case e => walk_at "hp"))
  | (refine' L2.TyOf.tup ?e; (case e => walk_at "hp"))
  | (refine' L2.TyOf.dK ?e; (case e => walk_at "hp")))
local macro_rules | `(tactic| walk_at "kit") => `(tactic| first
  | exact FR.ki_int_str
  | exact FR.ki_int_int
  | exact FR.ki_int_bool
  | exact FR.ki_int_list
  | exact FR.ki_int_tuple
  | exact FR.ki_int_dict
  | exact FR.ki_str_str
  | exact FR.ki_str_int
  | exact FR.ki_str_bool
  | exact FR.ki_str_list
  | exact FR.ki_str_tuple
  | exact FR.ki_str_dict
  | exact FR.ki_bl_str
  | exact FR.ki_bl_int
  | exact FR.ki_bl_bool
  | exact FR.ki_bl_list
  | exact FR.ki_bl_tuple
  | exact FR.ki_bl_dict
  | exact FR.ki_non_str
  | exact FR.ki_non_int
  | exact FR.ki_non_bool
  | exact FR.ki_non_list
  | exact FR.ki_non_tuple
  | exact FR.ki_non_dict
  | exact FR.ki_lst_str
  | exact FR.ki_lst_int
  | exact FR.ki_lst_bool
  | exact FR.ki_lst_list
  | exact FR.ki_lst_tuple
  | exact FR.ki_lst_dict
  | exact FR.ki_tup_str
  | exact FR.ki_tup_int
  | exact FR.ki_tup_bool
  | exact FR.ki_tup_list
  | exact FR.ki_tup_tuple
  | exact FR.ki_tup_dict
  | exact FR.ki_dK_str
  | exact FR.ki_dK_int
  | exact FR.ki_dK_bool
  | exact FR.ki_dK_list
  | exact FR.ki_dK_tuple
  | exact FR.ki_dK_dict)
local macro_rules | `(tactic| walk_at "isi") => `(tactic| (refine' ⟨_, _, _, _, _, rfl, L2.ClsV.ty _, L2.TyX.base ?k1, L2.kit_ty ?k2, ?k3⟩; (case k1 => walk_at "ty"); (case k2 => walk_at "kit")))
local macro_rules | `(tactic| walk_at "w1") => `(tactic| first
  | (refine' FR.with1 0 ?k1 ?k2 (by assumption) (by assumption) ?k3; (case k1 => assumption); (case k2 => rfl); intro W)
  | (refine' FR.with1 1 ?k1 ?k2 (by assumption) (by assumption) ?k3; (case k1 => assumption); (case k2 => rfl); intro W)
  | (refine' FR.with1 2 ?k1 ?k2 (by assumption) (by assumption) ?k3; (case k1 => assumption); (case k2 => rfl); intro W)
  | (refine' FR.with1 3 ?k1 ?k2 (by assumption) (by assumption) ?k3; (case k1 => assumption); (case k2 => rfl); intro W)
  | (refine' FR.with1 4 ?k1 ?k2 (by assumption) (by assumption) ?k3; (case k1 => assumption); (case k2 => rfl); intro W)
  | (refine' FR.with1 5 ?k1 ?k2 (by assumption) (by assumption) ?k3; (case k1 => assumption); (case k2 => rfl); intro W)
  | (refine' FR.with1 6 ?k1 ?k2 (by assumption) (by assumption) ?k3; (case k1 => assumption); (case k2 => rfl); intro W)
  | (refine' FR.with1 7 ?k1 ?k2 (by assumption) (by assumption) ?k3; (case k1 => assumption); (case k2 => rfl); intro W)
  | (refine' FR.with1 8 ?k1 ?k2 (by assumption) (by assumption) ?k3; (case k1 => assumption); (case k2 => rfl); intro W)
  | (refine' FR.with1 9 ?k1 ?k2 (by assumption) (by assumption) ?k3; (case k1 => assumption); (case k2 => rfl); intro W)
  | (refine' FR.with1 10 ?k1 ?k2 (by assumption) (by assumption) ?k3; (case k1 => assumption); (case k2 => rfl); intro W)
  | (refine' FR.with1 11 ?k1 ?k2 (by assumption) (by assumption) ?k3; (case k1 => assumption); (case k2 => rfl); intro W)
  | (refine' FR.with1 12 ?k1 ?k2 (by assumption) (by assumption) ?k3; (case k1 => assumption); (case k2 => rfl); intro W)
  | (refine' FR.with1 13 ?k1 ?k2 (by assumption) (by assumption) ?k3; (case k1 => assumption); (case k2 => rfl); intro W))
local macro_rules | `(tactic| walk_at "obj") => `(tactic| first
  | (refine FR.NewO.mk ?_; intro p H np kp hp; refine' FR.withN ?k1 np kp hp ?k2; (case k1 => assumption); intro W)
  | (refine FR.NewS.mk ?_; intro p H np sp kp hp; refine' FR.withN ?k1 np kp hp ?k2; (case k1 => assumption); intro W)
  | (refine FR.MutO.mk ?_; intro H kp hp; walk_at "w1"))
local macro_rules | `(tactic| walk_at "sz") => `(tactic| exact FR.size_ok (by (try simp only [List.length_map, List.length_append, List.length_cons, List.length_nil]); omega))
local macro_rules | `(tactic| walk_at "rd1") => `(tactic| first
  | (refine ⟨_, rfl, ?_⟩)
  | (refine ⟨_, _, rfl, rfl, ?_⟩)
  | (refine ⟨_, _, rfl, ?_⟩)
  | (refine' ⟨_, _, _, _, rfl, rfl, ?k1, ?k2, ?k3⟩; (case k1 => walk_at "hp"); (case k2 => rfl); walk_at "obj")
  | (refine' ⟨_, _, _, _, rfl, rfl, ?k1, ?k2, ?k3⟩; (case k1 => walk_at "sq"); (case k2 => rfl))
  | walk_at "obj"
  | (refine' ⟨_, _, _, rfl, rfl, ?k1, ?k2, ?k3⟩; (case k1 => walk_at "hp"); (case k2 => walk_at "sz"); walk_at "obj")
  | (refine And.intro (show List.length _ ≤ PySem.sizeLine from Nat.le_of_ble_eq_true rfl) ?_; walk_at "obj")
  | (refine' ⟨_, _, rfl, Or.inl ?k1, ?k2⟩; (case k1 => walk_at "sq"))
  | (refine FR.ifT rfl ?_) | (refine FR.ifF rfl ?_)
  | (refine And.intro (show L2.scal _ _ = true from rfl) ?_)
  | (refine And.intro (show L2.tyV _ "str" (L2.V.str _) _ from rfl) ?_)
  | (refine' And.intro (show L2.tyV _ "list" (L2.V.ref _) _ from Or.inl ⟨rfl, _, ?k1⟩) ?k2; (case k1 => walk_at "sq"))
  | (refine And.intro (Exists.intro _ rfl) ?_)
  | (refine And.intro (show L2.wipe _ _ = L2.wipe _ _ from rfl) ?_)
  | (refine And.intro (by walk_at "cd") ?_)
  | walk_at "isi")
local macro_rules | `(tactic| walk_at "rd") => `(tactic| repeat walk_at "rd1")
local macro_rules | `(tactic| walk_at "take") => `(tactic| (refine' ⟨_, _, _, _, _, _, rfl, ?k1, ?k2, ?k3, ?k4, ?k5, ?k6⟩; (case k1 => walk_at "hp"); (case k2 => assumption); (case k3 => omega); (case k4 => first | decide | omega); (case k5 => first | decide | omega); intro d x y z H d0 d1 ok kp hb; walk_at "w1"))
local macro_rules | `(tactic| walk_at "kwb") => `(tactic| (intro kV doc pm an cdv ct us ws l1 l2; match us, ws, l1, l2 with | [_], [_], _, _ => rfl))
set_option Elab.async false
set_option linter.all false
set_option maxRecDepth 100000
namespace K23
open PySem PySem.Spec PyProof.Rows L2 FR
def top (i : Nat) : Stmt := PySem.Challenge.pw_filerights_k23_people_told.main.body.getD i (.Pass ⟨0, 0, 0, 0⟩)
def inCls (s : Stmt) (j : Nat) : Stmt := match s with
  | .ClassDef _ _ _ b _ _ _ _ _ _ _ => b.getD j (.Pass ⟨0, 0, 0, 0⟩)
  | _ => .Pass ⟨0, 0, 0, 0⟩
abbrev s_is_name : Stmt := top 9
abbrev N_is_name : List Str := ["value"]
theorem sc_is_name : FnScope N_is_name ["value"] (defScope s_is_name) := ⟨rfl, rfl, rfl, by decide +kernel, rfl, by decide +kernel, by decide +kernel⟩
abbrev s_is_user_name : Stmt := top 10
abbrev N_is_user_name : List Str := ["value"]
theorem sc_is_user_name : FnScope N_is_user_name ["value"] (defScope s_is_user_name) := ⟨rfl, rfl, rfl, by decide +kernel, rfl, by decide +kernel, by decide +kernel⟩
abbrev s_is_list : Stmt := top 11
abbrev N_is_list : List Str := ["value"]
theorem sc_is_list : FnScope N_is_list ["value"] (defScope s_is_list) := ⟨rfl, rfl, rfl, by decide +kernel, rfl, by decide +kernel, by decide +kernel⟩
abbrev s__are_users : Stmt := top 16
abbrev N__are_users : List Str := ["value", "name"]
theorem sc__are_users : FnScope N__are_users ["value"] (defScope s__are_users) := ⟨rfl, rfl, rfl, by decide +kernel, rfl, by decide +kernel, by decide +kernel⟩
abbrev s__are_groups : Stmt := top 17
abbrev N__are_groups : List Str := ["value", "name"]
theorem sc__are_groups : FnScope N__are_groups ["value"] (defScope s__are_groups) := ⟨rfl, rfl, rfl, by decide +kernel, rfl, by decide +kernel, by decide +kernel⟩
abbrev s_cell : Stmt := top 19
abbrev N_cell : List Str := ["_law_script", "_law_k"]
theorem sc_cell : FnScope N_cell ["_law_script", "_law_k"] (defScope s_cell) := ⟨rfl, rfl, rfl, by decide +kernel, rfl, by decide +kernel, by decide +kernel⟩
abbrev s_bag : Stmt := top 20
abbrev N_bag : List Str := ["_law_number"]
theorem sc_bag : FnScope N_bag ["_law_number"] (defScope s_bag) := ⟨rfl, rfl, rfl, by decide +kernel, rfl, by decide +kernel, by decide +kernel⟩
abbrev s_take : Stmt := top 21
abbrev N_take : List Str := ["_law_bag_here", "_law_count", "_law_digit", "_law_mixed"]
theorem sc_take : FnScope N_take ["_law_bag_here", "_law_count"] (defScope s_take) := ⟨rfl, rfl, rfl, by decide +kernel, rfl, by decide +kernel, by decide +kernel⟩
abbrev s_names : Stmt := top 22
abbrev N_names : List Str := ["_law_bag_here", "_law_many", "_law_letters", "_law_stem", "_law_at", "_law_first", "_law_step", "_law_found", "_law_k", "_law_name"]
theorem sc_names : FnScope N_names ["_law_bag_here", "_law_many"] (defScope s_names) := ⟨rfl, rfl, rfl, by decide +kernel, rfl, by decide +kernel, by decide +kernel⟩
abbrev s_members : Stmt := top 23
abbrev N_members : List Str := ["_law_bag_here", "_law_users", "_law_groups", "_law_name", "_law_found", "_law_user_one", "_law_left", "_law_some", "_law_k"]
theorem sc_members : FnScope N_members ["_law_bag_here"] (defScope s_members) := ⟨rfl, rfl, rfl, by decide +kernel, rfl, by decide +kernel, by decide +kernel⟩
abbrev s_all_groups : Stmt := top 24
abbrev N_all_groups : List Str := ["_law_members_one"]
theorem sc_all_groups : FnScope N_all_groups ["_law_members_one"] (defScope s_all_groups) := ⟨rfl, rfl, rfl, by decide +kernel, rfl, by decide +kernel, by decide +kernel⟩
abbrev s_right : Stmt := top 25
abbrev N_right : List Str := ["_law_people", "_law_members_one", "_law_users", "_law_groups", "_law_turn", "_law_found", "_law_some", "_law_user_one", "_law_told", "_law_band", "_law_things", "_law_thing"]
theorem sc_right : FnScope N_right ["_law_people", "_law_members_one"] (defScope s_right) := ⟨rfl, rfl, rfl, by decide +kernel, rfl, by decide +kernel, by decide +kernel⟩
abbrev s_fresh_right : Stmt := top 26
abbrev N_fresh_right : List Str := ["_law_people", "_law_members_one", "_law_band", "_law_one"]
theorem sc_fresh_right : FnScope N_fresh_right ["_law_people", "_law_members_one"] (defScope s_fresh_right) := ⟨rfl, rfl, rfl, by decide +kernel, rfl, by decide +kernel, by decide +kernel⟩
abbrev s_changed : Stmt := top 27
abbrev N_changed : List Str := ["_law_bag_here", "_law_members_one", "_law_found", "_law_user_one", "_law_way", "_law_some", "_law_one", "_law_other", "_law_groups"]
theorem sc_changed : FnScope N_changed ["_law_bag_here", "_law_members_one"] (defScope s_changed) := ⟨rfl, rfl, rfl, by decide +kernel, rfl, by decide +kernel, by decide +kernel⟩
abbrev s_law : Stmt := top 28
abbrev N_law : List Str := ["_law_script", "_law_k", "_law_bag_here", "_law_members_one", "_law_handed", "_law_people", "_law_groups", "_law_others", "_law_other", "_law_user_one"]
theorem sc_law : FnScope N_law ["_law_script"] (defScope s_law) := ⟨rfl, rfl, rfl, by decide +kernel, rfl, by decide +kernel, by decide +kernel⟩
abbrev s_People___init__ : Stmt := inCls (top 15) 0
abbrev N_People___init__ : List Str := ["self", "members", "user", "group"]
theorem sc_People___init__ : FnScope N_People___init__ ["self", "members"] (defScope s_People___init__) := ⟨rfl, rfl, rfl, by decide +kernel, rfl, by decide +kernel, by decide +kernel⟩
abbrev s_People_users : Stmt := inCls (top 15) 1
abbrev N_People_users : List Str := ["self"]
theorem sc_People_users : FnScope N_People_users ["self"] (defScope s_People_users) := ⟨rfl, rfl, rfl, by decide +kernel, rfl, by decide +kernel, by decide +kernel⟩
abbrev s_People_groups : Stmt := inCls (top 15) 2
abbrev N_People_groups : List Str := ["self"]
theorem sc_People_groups : FnScope N_People_groups ["self"] (defScope s_People_groups) := ⟨rfl, rfl, rfl, by decide +kernel, rfl, by decide +kernel, by decide +kernel⟩
abbrev s_People_groups_of : Stmt := inCls (top 15) 3
abbrev N_People_groups_of : List Str := ["self", "user"]
theorem sc_People_groups_of : FnScope N_People_groups_of ["self", "user"] (defScope s_People_groups_of) := ⟨rfl, rfl, rfl, by decide +kernel, rfl, by decide +kernel, by decide +kernel⟩
abbrev s_People_first_group : Stmt := inCls (top 15) 4
abbrev N_People_first_group : List Str := ["self", "user"]
theorem sc_People_first_group : FnScope N_People_first_group ["self", "user"] (defScope s_People_first_group) := ⟨rfl, rfl, rfl, by decide +kernel, rfl, by decide +kernel, by decide +kernel⟩
abbrev s_People_members : Stmt := inCls (top 15) 5
abbrev N_People_members : List Str := ["self", "group", "user"]
theorem sc_People_members : FnScope N_People_members ["self", "group"] (defScope s_People_members) := ⟨rfl, rfl, rfl, by decide +kernel, rfl, by decide +kernel, by decide +kernel⟩
abbrev s_People___contains__ : Stmt := inCls (top 15) 6
abbrev N_People___contains__ : List Str := ["self", "value"]
theorem sc_People___contains__ : FnScope N_People___contains__ ["self", "value"] (defScope s_People___contains__) := ⟨rfl, rfl, rfl, by decide +kernel, rfl, by decide +kernel, by decide +kernel⟩
abbrev s_People___len__ : Stmt := inCls (top 15) 7
abbrev N_People___len__ : List Str := ["self"]
theorem sc_People___len__ : FnScope N_People___len__ ["self"] (defScope s_People___len__) := ⟨rfl, rfl, rfl, by decide +kernel, rfl, by decide +kernel, by decide +kernel⟩
abbrev s_People___eq__ : Stmt := inCls (top 15) 8
abbrev N_People___eq__ : List Str := ["self", "other"]
theorem sc_People___eq__ : FnScope N_People___eq__ ["self", "other"] (defScope s_People___eq__) := ⟨rfl, rfl, rfl, by decide +kernel, rfl, by decide +kernel, by decide +kernel⟩
abbrev s_People___repr__ : Stmt := inCls (top 15) 9
abbrev N_People___repr__ : List Str := ["self"]
theorem sc_People___repr__ : FnScope N_People___repr__ ["self"] (defScope s_People___repr__) := ⟨rfl, rfl, rfl, by decide +kernel, rfl, by decide +kernel, by decide +kernel⟩
structure Ads where
  f_is_name : Addr
  d_is_name : FuncData
  f_is_user_name : Addr
  d_is_user_name : FuncData
  f_is_list : Addr
  d_is_list : FuncData
  f__are_users : Addr
  d__are_users : FuncData
  f__are_groups : Addr
  d__are_groups : FuncData
  f_cell : Addr
  d_cell : FuncData
  f_bag : Addr
  d_bag : FuncData
  f_take : Addr
  d_take : FuncData
  f_names : Addr
  d_names : FuncData
  f_members : Addr
  d_members : FuncData
  f_all_groups : Addr
  d_all_groups : FuncData
  f_right : Addr
  d_right : FuncData
  f_fresh_right : Addr
  d_fresh_right : FuncData
  f_changed : Addr
  d_changed : FuncData
  f_law : Addr
  d_law : FuncData
  f_People___init__ : Addr
  d_People___init__ : FuncData
  f_People_users : Addr
  d_People_users : FuncData
  f_People_groups : Addr
  d_People_groups : FuncData
  f_People_groups_of : Addr
  d_People_groups_of : FuncData
  f_People_first_group : Addr
  d_People_first_group : FuncData
  f_People_members : Addr
  d_People_members : FuncData
  f_People___contains__ : Addr
  d_People___contains__ : FuncData
  f_People___len__ : Addr
  d_People___len__ : FuncData
  f_People___eq__ : Addr
  d_People___eq__ : FuncData
  C_People : Addr
structure Txt (K : PySem.W.Frag) (mg : Str → Option Value) (A : Ads) : Prop where
  F_is_name : Fun K "is_name" "is_name" s_is_name A.f_is_name A.d_is_name
  B_is_name : Binds K A.d_is_name ["value"] []
  g_is_name : mg "is_name" = some (.ref A.f_is_name)
  F_is_user_name : Fun K "is_user_name" "is_user_name" s_is_user_name A.f_is_user_name A.d_is_user_name
  B_is_user_name : Binds K A.d_is_user_name ["value"] []
  g_is_user_name : mg "is_user_name" = some (.ref A.f_is_user_name)
  F_is_list : Fun K "is_list" "is_list" s_is_list A.f_is_list A.d_is_list
  B_is_list : Binds K A.d_is_list ["value"] []
  g_is_list : mg "is_list" = some (.ref A.f_is_list)
  F__are_users : Fun K "_are_users" "_are_users" s__are_users A.f__are_users A.d__are_users
  B__are_users : Binds K A.d__are_users ["value"] []
  g__are_users : mg "_are_users" = some (.ref A.f__are_users)
  F__are_groups : Fun K "_are_groups" "_are_groups" s__are_groups A.f__are_groups A.d__are_groups
  B__are_groups : Binds K A.d__are_groups ["value"] []
  g__are_groups : mg "_are_groups" = some (.ref A.f__are_groups)
  F_cell : Fun K "_law_cell" "_law_cell" s_cell A.f_cell A.d_cell
  B_cell : Binds K A.d_cell ["_law_script", "_law_k"] []
  g_cell : mg "_law_cell" = some (.ref A.f_cell)
  F_bag : Fun K "_law_bag" "_law_bag" s_bag A.f_bag A.d_bag
  B_bag : Binds K A.d_bag ["_law_number"] []
  g_bag : mg "_law_bag" = some (.ref A.f_bag)
  F_take : Fun K "_law_take" "_law_take" s_take A.f_take A.d_take
  B_take : Binds K A.d_take ["_law_bag_here", "_law_count"] []
  g_take : mg "_law_take" = some (.ref A.f_take)
  F_names : Fun K "_law_names" "_law_names" s_names A.f_names A.d_names
  B_names : Binds K A.d_names ["_law_bag_here", "_law_many"] []
  g_names : mg "_law_names" = some (.ref A.f_names)
  F_members : Fun K "_law_members" "_law_members" s_members A.f_members A.d_members
  B_members : Binds K A.d_members ["_law_bag_here"] []
  g_members : mg "_law_members" = some (.ref A.f_members)
  F_all_groups : Fun K "_law_all_groups" "_law_all_groups" s_all_groups A.f_all_groups A.d_all_groups
  B_all_groups : Binds K A.d_all_groups ["_law_members_one"] []
  g_all_groups : mg "_law_all_groups" = some (.ref A.f_all_groups)
  F_right : Fun K "_law_right" "_law_right" s_right A.f_right A.d_right
  B_right : Binds K A.d_right ["_law_people", "_law_members_one"] []
  g_right : mg "_law_right" = some (.ref A.f_right)
  F_fresh_right : Fun K "_law_fresh_right" "_law_fresh_right" s_fresh_right A.f_fresh_right A.d_fresh_right
  B_fresh_right : Binds K A.d_fresh_right ["_law_people", "_law_members_one"] []
  g_fresh_right : mg "_law_fresh_right" = some (.ref A.f_fresh_right)
  F_changed : Fun K "_law_changed" "_law_changed" s_changed A.f_changed A.d_changed
  B_changed : Binds K A.d_changed ["_law_bag_here", "_law_members_one"] []
  g_changed : mg "_law_changed" = some (.ref A.f_changed)
  F_law : Fun K "law" "law" s_law A.f_law A.d_law
  B_law : Binds K A.d_law ["_law_script"] []
  g_law : mg "law" = some (.ref A.f_law)
  F_People___init__ : Fun K "__init__" "People.__init__" s_People___init__ A.f_People___init__ A.d_People___init__
  B_People___init__ : Binds K A.d_People___init__ ["self", "members"] []
  me_People___init__ : Meth K A.C_People "__init__" A.f_People___init__
  F_People_users : Fun K "users" "People.users" s_People_users A.f_People_users A.d_People_users
  B_People_users : Binds K A.d_People_users ["self"] []
  me_People_users : Meth K A.C_People "users" A.f_People_users
  F_People_groups : Fun K "groups" "People.groups" s_People_groups A.f_People_groups A.d_People_groups
  B_People_groups : Binds K A.d_People_groups ["self"] []
  me_People_groups : Meth K A.C_People "groups" A.f_People_groups
  F_People_groups_of : Fun K "groups_of" "People.groups_of" s_People_groups_of A.f_People_groups_of A.d_People_groups_of
  B_People_groups_of : Binds K A.d_People_groups_of ["self", "user"] []
  me_People_groups_of : Meth K A.C_People "groups_of" A.f_People_groups_of
  F_People_first_group : Fun K "first_group" "People.first_group" s_People_first_group A.f_People_first_group A.d_People_first_group
  B_People_first_group : Binds K A.d_People_first_group ["self", "user"] []
  me_People_first_group : Meth K A.C_People "first_group" A.f_People_first_group
  F_People_members : Fun K "members" "People.members" s_People_members A.f_People_members A.d_People_members
  B_People_members : Binds K A.d_People_members ["self", "group"] []
  me_People_members : Meth K A.C_People "members" A.f_People_members
  F_People___contains__ : Fun K "__contains__" "People.__contains__" s_People___contains__ A.f_People___contains__ A.d_People___contains__
  B_People___contains__ : Binds K A.d_People___contains__ ["self", "value"] []
  me_People___contains__ : Meth K A.C_People "__contains__" A.f_People___contains__
  F_People___len__ : Fun K "__len__" "People.__len__" s_People___len__ A.f_People___len__ A.d_People___len__
  B_People___len__ : Binds K A.d_People___len__ ["self"] []
  me_People___len__ : Meth K A.C_People "__len__" A.f_People___len__
  F_People___eq__ : Fun K "__eq__" "People.__eq__" s_People___eq__ A.f_People___eq__ A.d_People___eq__
  B_People___eq__ : Binds K A.d_People___eq__ ["self", "other"] []
  me_People___eq__ : Meth K A.C_People "__eq__" A.f_People___eq__
  gC_People : mg "People" = some (.ref A.C_People)
  c_People : ∃ u, mg "People" = some u ∧ RelV (.ref A.C_People) u
  cl_People : Cls K A.C_People
  mk_People : Mk K A.C_People A.f_People___init__
  in_People : C8.InsC K A.C_People
  sf_People : PySem.W.selfFirst K A.C_People = true
  cd_People : ∃ cd, PySem.W.clsIn K A.C_People = some cd ∧ cd.mro = [.ref A.C_People, .type "object"]
  ne_People : PySem.W.findIn K (.ref A.C_People) "__ne__" = some (some (.builtin "object.__ne__"))
  na_People__held : NoAttr K A.C_People "_held"
  na_People__groups : NoAttr K A.C_People "_groups"
  nf_People_dict : PySem.W.notFirst K A.C_People (.type "dict") = true
  kt_People_dict : PySem.W.kitOne K (.type "dict") (.ref A.C_People) = some false
  nf_People_int : PySem.W.notFirst K A.C_People (.type "int") = true
  kt_People_int : PySem.W.kitOne K (.type "int") (.ref A.C_People) = some false
  c_LONGEST_NAME : ∃ u, mg "LONGEST_NAME" = some u ∧ RelV (.int 8) u
  c_MOST_USERS : ∃ u, mg "MOST_USERS" = some u ∧ RelV (.int 6) u
  c_MOST_GROUPS : ∃ u, mg "MOST_GROUPS" = some u ∧ RelV (.int 6) u
  b_all : mg "all" = none
  b_dict : mg "dict" = none
  b_int : mg "int" = none
  b_isinstance : mg "isinstance" = none
  b_len : mg "len" = none
  b_list : mg "list" = none
  b_max : mg "max" = none
  b_min : mg "min" = none
  b_range : mg "range" = none
  b_reversed : mg "reversed" = none
  b_set : mg "set" = none
  b_sorted : mg "sorted" = none
  b_str : mg "str" = none
  b_sum : mg "sum" = none
  b_tuple : mg "tuple" = none


end K23
set_option Elab.async false
set_option linter.all false
set_option maxRecDepth 100000
set_option maxHeartbeats 8000000
local macro_rules | `(tactic| walk_at "sq") => `(tactic| first
  | (refine' FR.Ow.sq (i := 0) ?w ?e; (case w => assumption); (case e => rfl))
  | (refine' FR.Ow.sq (i := 1) ?w ?e; (case w => assumption); (case e => rfl))
  | (refine' FR.Ow.sq (i := 2) ?w ?e; (case w => assumption); (case e => rfl))
  | (refine' FR.Ow.sq (i := 3) ?w ?e; (case w => assumption); (case e => rfl))
  | (refine' FR.Ow.sq (i := 4) ?w ?e; (case w => assumption); (case e => rfl))
  | (refine' FR.Ow.sq (i := 5) ?w ?e; (case w => assumption); (case e => rfl))
  | (refine' FR.Ow.sq (i := 6) ?w ?e; (case w => assumption); (case e => rfl))
  | (refine' FR.Ow.sq (i := 7) ?w ?e; (case w => assumption); (case e => rfl))
  | (refine' FR.Ow.sq (i := 8) ?w ?e; (case w => assumption); (case e => rfl))
  | (refine' FR.Ow.sq (i := 9) ?w ?e; (case w => assumption); (case e => rfl))
  | (refine' FR.Ow.sq (i := 10) ?w ?e; (case w => assumption); (case e => rfl))
  | (refine' FR.Ow.sq (i := 11) ?w ?e; (case w => assumption); (case e => rfl))
  | (refine' FR.Ow.sq (i := 12) ?w ?e; (case w => assumption); (case e => rfl))
  | (refine' FR.Ow.sq (i := 13) ?w ?e; (case w => assumption); (case e => rfl))
  | assumption)
local macro_rules | `(tactic| walk_at "hp") => `(tactic| first
  | (refine' FR.Ow.get (i := 0) ?w ?e; (case w => assumption); (case e => rfl))
  | (refine' FR.Ow.get (i := 1) ?w ?e; (case w => assumption); (case e => rfl))
  | (refine' FR.Ow.get (i := 2) ?w ?e; (case w => assumption); (case e => rfl))
  | (refine' FR.Ow.get (i := 3) ?w ?e; (case w => assumption); (case e => rfl))
  | (refine' FR.Ow.get (i := 4) ?w ?e; (case w => assumption); (case e => rfl))
  | (refine' FR.Ow.get (i := 5) ?w ?e; (case w => assumption); (case e => rfl))
  | (refine' FR.Ow.get (i := 6) ?w ?e; (case w => assumption); (case e => rfl))
  | (refine' FR.Ow.get (i := 7) ?w ?e; (case w => assumption); (case e => rfl))
  | (refine' FR.Ow.get (i := 8) ?w ?e; (case w => assumption); (case e => rfl))
  | (refine' FR.Ow.get (i := 9) ?w ?e; (case w => assumption); (case e => rfl))
  | (refine' FR.Ow.get (i := 10) ?w ?e; (case w => assumption); (case e => rfl))
  | (refine' FR.Ow.get (i := 11) ?w ?e; (case w => assumption); (case e => rfl))
  | (refine' FR.Ow.get (i := 12) ?w ?e; (case w => assumption); (case e => rfl))
  | (refine' FR.Ow.get (i := 13) ?w ?e; (case w => assumption); (case e => rfl))
  | assumption)
local macro_rules | `(tactic| walk_at "ar") => `(tactic| first | assumption | omega | decide)
local macro_rules | `(tactic| walk_at "cd") => `(tactic| first
  | assumption | (with_reducible rfl) | exact (rfl : List.length _ = _) | (dsimp only; walk_at "ar") | walk_at "ar"
  | (refine And.intro (a := (_ : Int) < _) ?_ ?_ <;> walk_at "ar")
  | (refine And.intro (a := (0 : Int) ≤ _) ?_ (And.intro ?_ ?_) <;> walk_at "ar")
  | exact FR.size_le (by omega) | exact FR.size_ok (by omega)
  | (refine Or.inl (And.intro ?_ ?_) <;> walk_at "ar")
  | (refine Or.inr (And.intro ?_ ?_) <;> walk_at "ar"))
local macro_rules | `(tactic| walk_at "ty") => `(tactic| first
  | exact L2.TyOf.int _
  | exact L2.TyOf.str _
  | exact L2.TyOf.bl _
  | exact L2.TyOf.non
  | (refine' L2.TyOf.lst ?e; (case e => walk_at "hp"))
  | (refine' L2.TyOf.tup ?e; (case e => walk_at "hp"))
  | (refine' L2.TyOf.dK ?e; (case e => walk_at "hp")))
local macro_rules | `(tactic| walk_at "kit") => `(tactic| first
  | exact FR.ki_int_str
  | exact FR.ki_int_int
  | exact FR.ki_int_bool
  | exact FR.ki_int_list
  | exact FR.ki_int_tuple
  | exact FR.ki_int_dict
  | exact FR.ki_str_str
  | exact FR.ki_str_int
  | exact FR.ki_str_bool
  | exact FR.ki_str_list
  | exact FR.ki_str_tuple
  | exact FR.ki_str_dict
  | exact FR.ki_bl_str
  | exact FR.ki_bl_int
  | exact FR.ki_bl_bool
  | exact FR.ki_bl_list
  | exact FR.ki_bl_tuple
  | exact FR.ki_bl_dict
  | exact FR.ki_non_str
  | exact FR.ki_non_int
  | exact FR.ki_non_bool
  | exact FR.ki_non_list
  | exact FR.ki_non_tuple
  | exact FR.ki_non_dict
  | exact FR.ki_lst_str
  | exact FR.ki_lst_int
  | exact FR.ki_lst_bool
  | exact FR.ki_lst_list
  | exact FR.ki_lst_tuple
  | exact FR.ki_lst_dict
  | exact FR.ki_tup_str
  | exact FR.ki_tup_int
  | exact FR.ki_tup_bool
  | exact FR.ki_tup_list
  | exact FR.ki_tup_tuple
  | exact FR.ki_tup_dict
  | exact FR.ki_dK_str
  | exact FR.ki_dK_int
  | exact FR.ki_dK_bool
  | exact FR.ki_dK_list
  | exact FR.ki_dK_tuple
  | exact FR.ki_dK_dict)
local macro_rules | `(tactic| walk_at "isi") => `(tactic| (refine' ⟨_, _, _, _, _, rfl, L2.ClsV.ty _, L2.TyX.base ?k1, L2.kit_ty ?k2, ?k3⟩; (case k1 => walk_at "ty"); (case k2 => walk_at "kit")))
local macro_rules | `(tactic| walk_at "w1") => `(tactic| first
  | (refine' FR.with1 0 ?k1 ?k2 (by assumption) (by assumption) ?k3; (case k1 => assumption); (case k2 => rfl); intro W)
  | (refine' FR.with1 1 ?k1 ?k2 (by assumption) (by assumption) ?k3; (case k1 => assumption); (case k2 => rfl); intro W)
  | (refine' FR.with1 2 ?k1 ?k2 (by assumption) (by assumption) ?k3; (case k1 => assumption); (case k2 => rfl); intro W)
  | (refine' FR.with1 3 ?k1 ?k2 (by assumption) (by assumption) ?k3; (case k1 => assumption); (case k2 => rfl); intro W)
  | (refine' FR.with1 4 ?k1 ?k2 (by assumption) (by assumption) ?k3; (case k1 => assumption); (case k2 => rfl); intro W)
  | (refine' FR.with1 5 ?k1 ?k2 (by assumption) (by assumption) ?k3; (case k1 => assumption); (case k2 => rfl); intro W)
  | (refine' FR.with1 6 ?k1 ?k2 (by assumption) (by assumption) ?k3; (case k1 => assumption); (case k2 => rfl); intro W)
  | (refine' FR.with1 7 ?k1 ?k2 (by assumption) (by assumption) ?k3; (case k1 => assumption); (case k2 => rfl); intro W)
  | (refine' FR.with1 8 ?k1 ?k2 (by assumption) (by assumption) ?k3; (case k1 => assumption); (case k2 => rfl); intro W)
  | (refine' FR.with1 9 ?k1 ?k2 (by assumption) (by assumption) ?k3; (case k1 => assumption); (case k2 => rfl); intro W)
  | (refine' FR.with1 10 ?k1 ?k2 (by assumption) (by assumption) ?k3; (case k1 => assumption); (case k2 => rfl); intro W)
  | (refine' FR.with1 11 ?k1 ?k2 (by assumption) (by assumption) ?k3; (case k1 => assumption); (case k2 => rfl); intro W)
  | (refine' FR.with1 12 ?k1 ?k2 (by assumption) (by assumption) ?k3; (case k1 => assumption); (case k2 => rfl); intro W)
  | (refine' FR.with1 13 ?k1 ?k2 (by assumption) (by assumption) ?k3; (case k1 => assumption); (case k2 => rfl); intro W))
local macro_rules | `(tactic| walk_at "obj") => `(tactic| first
  | (refine FR.NewO.mk ?_; intro p H np kp hp; refine' FR.withN ?k1 np kp hp ?k2; (case k1 => assumption); intro W)
  | (refine FR.NewS.mk ?_; intro p H np sp kp hp; refine' FR.withN ?k1 np kp hp ?k2; (case k1 => assumption); intro W)
  | (refine FR.MutO.mk ?_; intro H kp hp; walk_at "w1"))
local macro_rules | `(tactic| walk_at "sz") => `(tactic| exact FR.size_ok (by (try simp only [List.length_map, List.length_append, List.length_cons, List.length_nil]); omega))
local macro_rules | `(tactic| walk_at "rd1") => `(tactic| first
  | (refine ⟨_, rfl, ?_⟩)
  | (refine ⟨_, _, rfl, rfl, ?_⟩)
  | (refine ⟨_, _, rfl, ?_⟩)
  | (refine' ⟨_, _, _, _, rfl, rfl, ?k1, ?k2, ?k3⟩; (case k1 => walk_at "hp"); (case k2 => rfl); walk_at "obj")
  | (refine' ⟨_, _, _, _, rfl, rfl, ?k1, ?k2, ?k3⟩; (case k1 => walk_at "sq"); (case k2 => rfl))
  | walk_at "obj"
  | (refine' ⟨_, _, _, rfl, rfl, ?k1, ?k2, ?k3⟩; (case k1 => walk_at "hp"); (case k2 => walk_at "sz"); walk_at "obj")
  | (refine And.intro (show List.length _ ≤ PySem.sizeLine from Nat.le_of_ble_eq_true rfl) ?_; walk_at "obj")
  | (refine' ⟨_, _, rfl, Or.inl ?k1, ?k2⟩; (case k1 => walk_at "sq"))
  | (refine FR.ifT rfl ?_) | (refine FR.ifF rfl ?_)
  | (refine And.intro (show L2.scal _ _ = true from rfl) ?_)
  | (refine And.intro (show L2.tyV _ "str" (L2.V.str _) _ from rfl) ?_)
  | (refine' And.intro (show L2.tyV _ "list" (L2.V.ref _) _ from Or.inl ⟨rfl, _, ?k1⟩) ?k2; (case k1 => walk_at "sq"))
  | (refine And.intro (Exists.intro _ rfl) ?_)
  | (refine And.intro (show L2.wipe _ _ = L2.wipe _ _ from rfl) ?_)
  | (refine And.intro (by walk_at "cd") ?_)
  | walk_at "isi")
local macro_rules | `(tactic| walk_at "rd") => `(tactic| repeat walk_at "rd1")
local macro_rules | `(tactic| walk_at "take") => `(tactic| (refine' ⟨_, _, _, _, _, _, rfl, ?k1, ?k2, ?k3, ?k4, ?k5, ?k6⟩; (case k1 => walk_at "hp"); (case k2 => assumption); (case k3 => omega); (case k4 => first | decide | omega); (case k5 => first | decide | omega); intro d x y z H d0 d1 ok kp hb; walk_at "w1"))

namespace K23
open PySem PySem.Spec PyProof.Rows L2 FR TL
open C8 (pss_cut pe_gc)
section
variable {P : Program} {w : World} {K : PySem.W.Frag} {mg : Str → Option Value} {base : Heap} {A : Ads}
set_option pp.maxSteps 120
/-- a user's name -/
def Us (s : Str) : Prop := Nm s ∧ s ≠ Str.ofString "root"
def Uss (xs : List Str) : Prop := ∀ x ∈ xs, Us x
theorem ok_is_name (T : Txt K mg A) : FnOk P w K mg base CX0 1 A.f_is_name A.d_is_name ["value"] (fun vs H Q _ => ∃ s, vs = [.str s] ∧ Nm s ∧ Q (.bl true) H) := by
  refine T.F_is_name.ok sc_is_name (fun vs H Q E h => ?_) (fun cdv A_ outer s_ H vs Q E hr h => ?_)
  · obtain ⟨s, rfl, _⟩ := h
    rfl
  · obtain ⟨s, rfl, n, q⟩ := h
    refine ⟨_, (pss_cons (ps_if (PW.pt (pw_or (pt_not (pt_val (pe_callB call_isi (by rfl) T.b_isinstance (by decide +kernel) (pa_cons (pv 0) (pa_cons (pe_bltn (v := .ty "str") rfl T.b_str (by decide +kernel) rfl) pa_nil))))) (pw_or1 (pt_cmpR op_gt (pe_callB call_len_str (by rfl) T.b_len PySem.boot_len (pa_cons (pv 0) pa_nil)) (pe_gc rfl T.c_LONGEST_NAME) (nomark _))))) (pss_one (ps_ret pe_bl)) pss_nil)
  (pss_one (ps_ret (pe_and (pe_bm0 PySem.F.plainAttrs_str PySem.F.slot_str_isascii PySem.F.type_str_isascii mt_isascii (pv 0)) (pe_and (pe_bm0 PySem.F.plainAttrs_str PySem.F.slot_str_isalpha PySem.F.type_str_isalpha mt_isalpha (pv 0)) (pe_one (pe_bm0 PySem.F.plainAttrs_str PySem.F.slot_str_islower PySem.F.type_str_islower mt_islower (pv 0)))))))), ?_⟩
    have l1 := n.l1
    have hz : s.length ≤ sizeLine := size_le (by omega)
    have ea := isascii_asc n.asc
    have e1 := n.alpha
    have e2 := n.lower
    walk_at "rd"
    refine ifD (fun c => ?_) (fun c => ?_)
    · omega
    walk_at "rd"
    refine ifT ea ?_
    walk_at "rd"
    refine ifT e1 ?_
    walk_at "rd"
    show Q (.bl (Txt.islower s)) H
    rw [e2]
    exact q
theorem ok_is_user_name (T : Txt K mg A) : FnOk P w K mg base CX0 2 A.f_is_user_name A.d_is_user_name ["value"] (fun vs H Q _ => ∃ s, vs = [.str s] ∧ Us s ∧ Q (.bl true) H) := by
  refine T.F_is_user_name.ok sc_is_user_name (fun vs H Q E h => ?_) (fun cdv A_ outer s_ H vs Q E hr h => ?_)
  · obtain ⟨s, rfl, _⟩ := h
    rfl
  · obtain ⟨s, rfl, n, q⟩ := h
    refine ⟨_, (pss_one (ps_ret (pe_and (pe_call (ok_is_name T) (hr.mono (by decide)) (by rfl) T.g_is_name T.F_is_name.kp T.B_is_name .nil pass0 (pa_cons (pv 0) pa_nil)) (pe_one (pe_cmpR op_ne (pv 0) pe_str (nomark _)))))), ?_⟩
    walk_at "rd"
    refine ⟨n.1, _, rfl, ?_⟩
    refine ifT rfl ?_
    walk_at "rd"
    show Q (.bl (!decide (V.str s = V.str (Str.ofString "root")))) H
    rw [decide_eq_false (fun h => n.2 (V.str.inj h))]
    exact q
/-- a list or a tuple of these texts -/
def Sq (H : Hp) (x : V) (xs : List Str) : Prop := ∃ p, x = .ref p ∧ (H p = some (.lst (xs.map V.str)) ∨ H p = some (.tup (xs.map V.str)))
theorem Sq.tx {H : Hp} {x : V} {xs : List Str} (h : Sq H x xs) : TxSq K H x xs := by
  obtain ⟨p, rfl, h | h⟩ := h
  · exact ⟨p, rfl, .inl (.inl (Rd.of h))⟩
  · exact ⟨p, rfl, .inr (.inl (Rd.of h))⟩
theorem Sq.keep {H H' : Hp} {x : V} {xs : List Str} (h : Sq H x xs) (k : Keep [] H H') : Sq H' x xs := by
  obtain ⟨p, rfl, h | h⟩ := h
  · exact ⟨p, rfl, .inl (k _ _ h (by simp))⟩
  · exact ⟨p, rfl, .inr (k _ _ h (by simp))⟩
def lt2 : HO := .tup [V.ty "list", V.ty "tuple"]
theorem ok_is_list (T : Txt K mg A) : FnOk P w K mg base CX0 1 A.f_is_list A.d_is_list ["value"] (fun vs H Q _ => ∃ x xs, vs = [x] ∧ Sq H x xs ∧ ∀ H', Keep [] H H' → Q (.bl true) H') := by
  refine T.F_is_list.ok sc_is_list (fun vs H Q E h => ?_) (fun cdv A_ outer s_ H vs Q E hr h => ?_)
  · obtain ⟨x, xs, rfl, _⟩ := h
    rfl
  · obtain ⟨_, xs, rfl, ⟨p, rfl, hp⟩, q⟩ := h
    refine ⟨_, (pss_one (ps_ret (pe_callB call_isiT (by rfl) T.b_isinstance (by decide +kernel) (pa_cons (pv 0) (pa_cons (pe_tupN (pa_cons (pe_bltn (v := .ty "list") rfl T.b_list (by decide +kernel) rfl) (pa_cons (pe_bltn (v := .ty "tuple") rfl T.b_tuple (by decide +kernel) rfl) pa_nil))) pa_nil))))), ?_⟩
    walk_at "rd"
    refine NewO.mk fun tp H1 np kp ht => ?_
    have q1 := q H1 kp
    rcases hp with hp | hp
    · exact ⟨_, tp, _, _, _, true, rfl, ht, .cons (ClsV.ty _) (.cons (ClsV.ty _) .nil), TyX.base (TyOf.lst (kp _ _ hp (by simp))), kit2 (t := "list") (a := "list") (b := "tuple") (r1 := true) (r2 := false) (by decide +kernel) (by decide +kernel), q1⟩
    · exact ⟨_, tp, _, _, _, true, rfl, ht, .cons (ClsV.ty _) (.cons (ClsV.ty _) .nil), TyX.base (TyOf.tup (kp _ _ hp (by simp))), kit2 (t := "tuple") (a := "list") (b := "tuple") (r1 := false) (r2 := true) (by decide +kernel) (by decide +kernel), q1⟩
theorem ok_take (T : Txt K mg A) : FnOk P w K mg base CX0 1 A.f_take A.d_take ["_law_bag_here", "_law_count"] spTake := by
  refine T.F_take.ok sc_take (fun vs H Q E h => ?_) (fun cdv A_ outer s H vs Q E hr h => ?_)
  · obtain ⟨b, k, n, x, y, z, rfl, _⟩ := h
    rfl
  · obtain ⟨b, k, n, x, y, z, rfl, hb, ok, hn, k0, k1, q⟩ := h
    have W := Ow.start1 hb
    have y0 := ok.y0; have y1 := ok.y1; have z0 := ok.z0; have z1 := ok.z1
    refine ⟨_, (pss_cons (ps_if (pt_cmpR op_gt (pe_ix ix_list (pv 0) pe_int (fun _ _ => rfl)) pe_int (nomark _)) (pss_cons (ps_set (i := 2) sc_take.nd rfl (.inl rfl) (pe_op op_mod (pe_ix ix_list (pv 0) pe_int (fun _ _ => rfl)) (pv 1)))
  (pss_cons (ps_asg (pe_op op_fdiv (pe_ix ix_list (pv 0) pe_int (fun _ _ => rfl)) (pv 1)) (pg_sub (pv 0) pe_int set_listN))
  (pss_one (ps_ret (pv 2))))) pss_nil)
  (pss_cons (ps_asg (pe_op op_add (pe_ix ix_list (pv 0) pe_int (fun _ _ => rfl)) pe_int) (pg_sub (pv 0) pe_int set_listN))
  (pss_cons (ps_set (i := 3) sc_take.nd rfl (.inl rfl) (pe_op op_mod (pe_op op_pow (pe_op op_add (pe_op op_add (pe_ix ix_list (pv 0) pe_int (fun _ _ => rfl)) (pe_op op_mul pe_int (pe_ix ix_list (pv 0) pe_int (fun _ _ => rfl)))) pe_int) pe_int) pe_int))
  (pss_cons (ps_set (i := 3) sc_take.nd rfl (.inl rfl) (pe_op op_mod (pe_op op_pow (pe_op op_add (pv 3) (pe_op op_mul pe_int (pe_ix ix_list (pv 0) pe_int (fun _ _ => rfl)))) pe_int) pe_int))
  (pss_one (ps_ret (pe_op op_mod (pe_op op_fdiv (pv 3) pe_int) (pv 1)))))))), ?_⟩
    walk_at "rd"
    refine ite2 (fun c => ?_) (fun c => ?_)
    · have c' : 0 < x := of_decide_eq_true c
      walk_at "rd"
      rename_i H1 kp hp W1
      exact q _ (x / k) y z H1 (Int.emod_nonneg _ (by omega)) (Int.emod_lt_of_pos _ k0) ⟨Int.ediv_nonneg ok.x0 (by omega), y0, y1, z0, by omega⟩ kp hp
    · walk_at "rd"
      rename_i H1 kp hp W1
      exact q _ x y (z + 1) H1 (Int.emod_nonneg _ (by omega)) (Int.emod_lt_of_pos _ k0) ⟨ok.x0, y0, y1, by omega, by omega⟩ kp hp
def spCell (K : PySem.W.Frag) : Sp := fun vs H Q _ => ∃ (a : Addr) (ns : List Int) (k : Int), vs = [.ref a, .int k] ∧ SqL K H a (ns.map V.int) ∧ 0 ≤ k ∧ k < 1000 ∧ ∀ n, Q (.int n) H
theorem ok_cell (T : Txt K mg A) : FnOk P w K mg base CX0 1 A.f_cell A.d_cell ["_law_script", "_law_k"] (spCell K) := by
  refine T.F_cell.ok sc_cell (fun vs H Q E h => ?_) (fun cdv A_ outer s H vs Q E hr h => ?_)
  · obtain ⟨a, ns, k, rfl, _⟩ := h
    rfl
  · obtain ⟨a, ns, k, rfl, hS, h0, hk, q⟩ := h
    obtain ⟨j, rfl⟩ := Int.eq_ofNat_of_zero_le h0
    refine ⟨_, (pss_cons (ps_if (pt_cmpR op_lt (pv 1) (pe_callB call_len_seq (by rfl) T.b_len PySem.boot_len (pa_cons (pv 0) pa_nil)) (nomark _)) (pss_one (ps_ret (pe_ix ix_list (pv 0) (pv 1) (fun _ _ => rfl)))) pss_nil)
  (pss_one (ps_ret (pe_op op_add (pe_op op_mul pe_int (pv 1)) pe_int)))), ?_⟩
    walk_at "rd"
    refine ifD (fun c => ?_) (fun c => ?_)
    · have c2 : j < ns.length := by rw [List.length_map] at c; omega
      refine ⟨_, rfl, _, rfl, _, _, _, .int ns[j], rfl, rfl, hS, atI_nat (by rw [List.getElem?_map, List.getElem?_eq_getElem c2]; rfl), q _⟩
    · walk_at "rd"
      exact q _
def spBag : Sp := fun vs H Q _ => ∃ n : Int, vs = [.int n] ∧ ∀ x y z, BagOk 0 x y z → NewO (bagO x y z) Q H
theorem ok_bag (T : Txt K mg A) : FnOk P w K mg base CX0 1 A.f_bag A.d_bag ["_law_number"] spBag := by
  refine T.F_bag.ok sc_bag (fun vs H Q E h => ?_) (fun cdv A_ outer s H vs Q E hr h => ?_)
  · obtain ⟨n, rfl, _⟩ := h
    rfl
  · obtain ⟨n, rfl, q⟩ := h
    have W : Ow H [] H [] := Ow.start0
    refine ⟨_, (pss_one (ps_ret (pe_lstS (pa_cons (pe_callB (call_max2 rfl) (by rfl) T.b_max (by decide +kernel) (pa_cons pe_int (pa_cons (pe_op op_sub (pv 0) (pe_op op_pow pe_int pe_int)) pa_nil))) (pa_cons (pe_op op_mod (pv 0) pe_int) (pa_cons pe_int pa_nil)))))), ?_⟩
    have q' := q (if n - 10 ^ 18 > 0 then n - 10 ^ 18 else 0) (n % 2147483629) 0 ⟨by split <;> omega, Int.emod_nonneg _ (by decide), Int.lt_trans (Int.emod_lt_of_pos _ (by decide)) (by decide), by omega, by omega⟩
    walk_at "rd"
    rename_i p H1 np sp kp hp W1
    exact q'.to p H1 np kp hp
end
end K23
set_option Elab.async false
set_option linter.all false
set_option maxRecDepth 100000
set_option maxHeartbeats 8000000
local macro_rules | `(tactic| walk_at "sq") => `(tactic| first
  | (refine' FR.Ow.sq (i := 0) ?w ?e; (case w => assumption); (case e => rfl))
  | (refine' FR.Ow.sq (i := 1) ?w ?e; (case w => assumption); (case e => rfl))
  | (refine' FR.Ow.sq (i := 2) ?w ?e; (case w => assumption); (case e => rfl))
  | (refine' FR.Ow.sq (i := 3) ?w ?e; (case w => assumption); (case e => rfl))
  | (refine' FR.Ow.sq (i := 4) ?w ?e; (case w => assumption); (case e => rfl))
  | (refine' FR.Ow.sq (i := 5) ?w ?e; (case w => assumption); (case e => rfl))
  | (refine' FR.Ow.sq (i := 6) ?w ?e; (case w => assumption); (case e => rfl))
  | (refine' FR.Ow.sq (i := 7) ?w ?e; (case w => assumption); (case e => rfl))
  | (refine' FR.Ow.sq (i := 8) ?w ?e; (case w => assumption); (case e => rfl))
  | (refine' FR.Ow.sq (i := 9) ?w ?e; (case w => assumption); (case e => rfl))
  | (refine' FR.Ow.sq (i := 10) ?w ?e; (case w => assumption); (case e => rfl))
  | (refine' FR.Ow.sq (i := 11) ?w ?e; (case w => assumption); (case e => rfl))
  | (refine' FR.Ow.sq (i := 12) ?w ?e; (case w => assumption); (case e => rfl))
  | (refine' FR.Ow.sq (i := 13) ?w ?e; (case w => assumption); (case e => rfl))
  | assumption)
local macro_rules | `(tactic| walk_at "hp") => `(tactic| first
  | (refine' FR.Ow.get (i := 0) ?w ?e; (case w => assumption); (case e => rfl))
  | (refine' FR.Ow.get (i := 1) ?w ?e; (case w => assumption); (case e => rfl))
  | (refine' FR.Ow.get (i := 2) ?w ?e; (case w => assumption); (case e => rfl))
  | (refine' FR.Ow.get (i := 3) ?w ?e; (case w => assumption); (case e => rfl))
  | (refine' FR.Ow.get (i := 4) ?w ?e; (case w => assumption); (case e => rfl))
  | (refine' FR.Ow.get (i := 5) ?w ?e; (case w => assumption); (case e => rfl))
  | (refine' FR.Ow.get (i := 6) ?w ?e; (case w => assumption); (case e => rfl))
  | (refine' FR.Ow.get (i := 7) ?w ?e; (case w => assumption); (case e => rfl))
  | (refine' FR.Ow.get (i := 8) ?w ?e; (case w => assumption); (case e => rfl))
  | (refine' FR.Ow.get (i := 9) ?w ?e; (case w => assumption); (case e => rfl))
  | (refine' FR.Ow.get (i := 10) ?w ?e; (case w => assumption); (case e => rfl))
  | (refine' FR.Ow.get (i := 11) ?w ?e; (case w => assumption); (case e => rfl))
  | (refine' FR.Ow.get (i := 12) ?w ?e; (case w => assumption); (case e => rfl))
  | (refine' FR.Ow.get (i := 13) ?w ?e; (case w => assumption); (case e => rfl))
  | assumption)
local macro_rules | `(tactic| walk_at "ar") => `(tactic| first | assumption | omega | decide)
local macro_rules | `(tactic| walk_at "cd") => `(tactic| first
  | assumption | (with_reducible rfl) | exact (rfl : List.length _ = _) | (dsimp only; walk_at "ar") | walk_at "ar"
  | (refine And.intro (a := (_ : Int) < _) ?_ ?_ <;> walk_at "ar")
  | (refine And.intro (a := (0 : Int) ≤ _) ?_ (And.intro ?_ ?_) <;> walk_at "ar")
  | exact FR.size_le (by omega) | exact FR.size_ok (by omega)
  | (refine Or.inl (And.intro ?_ ?_) <;> walk_at "ar")
  | (refine Or.inr (And.intro ?_ ?_) <;> walk_at "ar"))
local macro_rules | `(tactic| walk_at "ty") => `(tactic| first
  | exact L2.TyOf.int _
  | exact L2.TyOf.str _
  | exact L2.TyOf.bl _
  | exact L2.TyOf.non
  | (refine' L2.TyOf.lst ?e; (case e => walk_at "hp"))
  | (refine' L2.TyOf.tup ?e; (case e => walk_at "hp"))
  | (refine' L2.TyOf.dK ?e; (case e => walk_at "hp")))
local macro_rules | `(tactic| walk_at "kit") => `(tactic| first
  | exact FR.ki_int_str
  | exact FR.ki_int_int
  | exact FR.ki_int_bool
  | exact FR.ki_int_list
  | exact FR.ki_int_tuple
  | exact FR.ki_int_dict
  | exact FR.ki_str_str
  | exact FR.ki_str_int
  | exact FR.ki_str_bool
  | exact FR.ki_str_list
  | exact FR.ki_str_tuple
  | exact FR.ki_str_dict
  | exact FR.ki_bl_str
  | exact FR.ki_bl_int
  | exact FR.ki_bl_bool
  | exact FR.ki_bl_list
  | exact FR.ki_bl_tuple
  | exact FR.ki_bl_dict
  | exact FR.ki_non_str
  | exact FR.ki_non_int
  | exact FR.ki_non_bool
  | exact FR.ki_non_list
  | exact FR.ki_non_tuple
  | exact FR.ki_non_dict
  | exact FR.ki_lst_str
  | exact FR.ki_lst_int
  | exact FR.ki_lst_bool
  | exact FR.ki_lst_list
  | exact FR.ki_lst_tuple
  | exact FR.ki_lst_dict
  | exact FR.ki_tup_str
  | exact FR.ki_tup_int
  | exact FR.ki_tup_bool
  | exact FR.ki_tup_list
  | exact FR.ki_tup_tuple
  | exact FR.ki_tup_dict
  | exact FR.ki_dK_str
  | exact FR.ki_dK_int
  | exact FR.ki_dK_bool
  | exact FR.ki_dK_list
  | exact FR.ki_dK_tuple
  | exact FR.ki_dK_dict)
local macro_rules | `(tactic| walk_at "isi") => `(tactic| (refine' ⟨_, _, _, _, _, rfl, L2.ClsV.ty _, L2.TyX.base ?k1, L2.kit_ty ?k2, ?k3⟩; (case k1 => walk_at "ty"); (case k2 => walk_at "kit")))
local macro_rules | `(tactic| walk_at "w1") => `(tactic| first
  | (refine' FR.with1 0 ?k1 ?k2 (by assumption) (by assumption) ?k3; (case k1 => assumption); (case k2 => rfl); intro W)
  | (refine' FR.with1 1 ?k1 ?k2 (by assumption) (by assumption) ?k3; (case k1 => assumption); (case k2 => rfl); intro W)
  | (refine' FR.with1 2 ?k1 ?k2 (by assumption) (by assumption) ?k3; (case k1 => assumption); (case k2 => rfl); intro W)
  | (refine' FR.with1 3 ?k1 ?k2 (by assumption) (by assumption) ?k3; (case k1 => assumption); (case k2 => rfl); intro W)
  | (refine' FR.with1 4 ?k1 ?k2 (by assumption) (by assumption) ?k3; (case k1 => assumption); (case k2 => rfl); intro W)
  | (refine' FR.with1 5 ?k1 ?k2 (by assumption) (by assumption) ?k3; (case k1 => assumption); (case k2 => rfl); intro W)
  | (refine' FR.with1 6 ?k1 ?k2 (by assumption) (by assumption) ?k3; (case k1 => assumption); (case k2 => rfl); intro W)
  | (refine' FR.with1 7 ?k1 ?k2 (by assumption) (by assumption) ?k3; (case k1 => assumption); (case k2 => rfl); intro W)
  | (refine' FR.with1 8 ?k1 ?k2 (by assumption) (by assumption) ?k3; (case k1 => assumption); (case k2 => rfl); intro W)
  | (refine' FR.with1 9 ?k1 ?k2 (by assumption) (by assumption) ?k3; (case k1 => assumption); (case k2 => rfl); intro W)
  | (refine' FR.with1 10 ?k1 ?k2 (by assumption) (by assumption) ?k3; (case k1 => assumption); (case k2 => rfl); intro W)
  | (refine' FR.with1 11 ?k1 ?k2 (by assumption) (by assumption) ?k3; (case k1 => assumption); (case k2 => rfl); intro W)
  | (refine' FR.with1 12 ?k1 ?k2 (by assumption) (by assumption) ?k3; (case k1 => assumption); (case k2 => rfl); intro W)
  | (refine' FR.with1 13 ?k1 ?k2 (by assumption) (by assumption) ?k3; (case k1 => assumption); (case k2 => rfl); intro W))
local macro_rules | `(tactic| walk_at "obj") => `(tactic| first
  | (refine FR.NewO.mk ?_; intro p H np kp hp; refine' FR.withN ?k1 np kp hp ?k2; (case k1 => assumption); intro W)
  | (refine FR.NewS.mk ?_; intro p H np sp kp hp; refine' FR.withN ?k1 np kp hp ?k2; (case k1 => assumption); intro W)
  | (refine FR.MutO.mk ?_; intro H kp hp; walk_at "w1"))
local macro_rules | `(tactic| walk_at "sz") => `(tactic| exact FR.size_ok (by (try simp only [List.length_map, List.length_append, List.length_cons, List.length_nil]); omega))
local macro_rules | `(tactic| walk_at "rd1") => `(tactic| first
  | (refine ⟨_, rfl, ?_⟩)
  | (refine ⟨_, _, rfl, rfl, ?_⟩)
  | (refine ⟨_, _, rfl, ?_⟩)
  | (refine' ⟨_, _, _, _, rfl, rfl, ?k1, ?k2, ?k3⟩; (case k1 => walk_at "hp"); (case k2 => rfl); walk_at "obj")
  | (refine' ⟨_, _, _, _, rfl, rfl, ?k1, ?k2, ?k3⟩; (case k1 => walk_at "sq"); (case k2 => rfl))
  | walk_at "obj"
  | (refine' ⟨_, _, _, rfl, rfl, ?k1, ?k2, ?k3⟩; (case k1 => walk_at "hp"); (case k2 => walk_at "sz"); walk_at "obj")
  | (refine And.intro (show List.length _ ≤ PySem.sizeLine from Nat.le_of_ble_eq_true rfl) ?_; walk_at "obj")
  | (refine' ⟨_, _, rfl, Or.inl ?k1, ?k2⟩; (case k1 => walk_at "sq"))
  | (refine FR.ifT rfl ?_) | (refine FR.ifF rfl ?_)
  | (refine And.intro (show L2.scal _ _ = true from rfl) ?_)
  | (refine And.intro (show L2.tyV _ "str" (L2.V.str _) _ from rfl) ?_)
  | (refine' And.intro (show L2.tyV _ "list" (L2.V.ref _) _ from Or.inl ⟨rfl, _, ?k1⟩) ?k2; (case k1 => walk_at "sq"))
  | (refine And.intro (Exists.intro _ rfl) ?_)
  | (refine And.intro (show L2.wipe _ _ = L2.wipe _ _ from rfl) ?_)
  | (refine And.intro (by walk_at "cd") ?_)
  | walk_at "isi")
local macro_rules | `(tactic| walk_at "rd") => `(tactic| repeat walk_at "rd1")
local macro_rules | `(tactic| walk_at "take") => `(tactic| (refine' ⟨_, _, _, _, _, _, rfl, ?k1, ?k2, ?k3, ?k4, ?k5, ?k6⟩; (case k1 => walk_at "hp"); (case k2 => assumption); (case k3 => omega); (case k4 => first | decide | omega); (case k5 => first | decide | omega); intro d x y z H d0 d1 ok kp hb; walk_at "w1"))

namespace K23
open PySem PySem.Spec PyProof.Rows L2 FR TL
open C8 (pss_cut pe_gc)
theorem upd_again {H : Hp} {a : Addr} {o o' : HO} : upd (upd H a o) a o' = upd H a o' := by
  funext b
  by_cases c : b = a
  · subst c; rw [upd_same, upd_same]
  · rw [upd_ne c, upd_ne c, upd_ne c]
section
variable {P : Program} {w : World} {K : PySem.W.Frag} {mg : Str → Option Value} {base : Heap} {A : Ads}
set_option pp.maxSteps 120
theorem ok__are_users (T : Txt K mg A) : FnOk P w K mg base CX0 3 A.f__are_users A.d__are_users ["value"] (fun vs H Q _ => ∃ a kvs ks, vs = [.ref a] ∧ H a = some (.dK kvs) ∧ kvs.map (·.1) = ks.map Sum.inr ∧ Uss ks ∧ 1 ≤ ks.length ∧ ks.length ≤ 6 ∧ ∀ H', Keep [] H H' → Q (.bl true) H') := by
  refine T.F__are_users.ok sc__are_users (fun vs H Q E h => ?_) (fun cdv A_ outer s_ H vs Q E hr h => ?_)
  · obtain ⟨a, kvs, ks, rfl, _⟩ := h
    rfl
  · obtain ⟨a, kvs, ks, rfl, ha, hk, us, l1, l2, q⟩ := h
    refine ⟨_, (pss_cons (ps_if (PW.pt (pw_or (pt_not (pt_val (pe_callB call_isi (by rfl) T.b_isinstance (by decide +kernel) (pa_cons (pv 0) (pa_cons (pe_bltn (v := .ty "dict") rfl T.b_dict (by decide +kernel) rfl) pa_nil))))) (pw_or1 (pt_not (pt_chain op_le op_le pe_int (pe_callB call_lenD (by rfl) T.b_len PySem.boot_len (pa_cons (pv 0) pa_nil)) (pe_gc rfl T.c_MOST_USERS)))))) (pss_one (ps_ret pe_bl)) pss_nil)
  (pss_one (ps_ret (pe_callB (cr_all rfl) (by rfl) T.b_all (by decide +kernel) (pa_cons (pe_lock (pe_lc (own := [("name", 1)]) (g := gName 1) rfl sc__are_users.nd (pi_keys (pv 0)) (blkOk_by (own := [("name", 1)]) (N := N__are_users) (sc := defScope s__are_users) (by decide +kernel)) (fun _ _ _ _ _ => pg_name (i := 1) sc__are_users.nd rfl (Or.inl rfl)) (fun _ _ _ _ _ => pts_nil) (fun _ _ _ _ _ => (pe_call (ok_is_user_name T) (hr.mono (by decide)) (by rfl) T.g_is_user_name T.F_is_user_name.kp T.B_is_user_name .nil pass0 (pa_cons (pv 1) pa_nil))))) pa_nil))))), ?_⟩
    have hl : kvs.length = ks.length := by simpa using congrArg List.length hk
    walk_at "rd"
    refine ⟨a, kvs, rfl, ha, ?_⟩
    refine ⟨_, _, rfl, rfl, _, rfl, ifT (decide_eq_true (by omega)) ?_⟩
    refine ⟨_, _, rfl, rfl, _, rfl, ?_⟩
    refine ifF (by rw [decide_eq_true (show (kvs.length : Int) ≤ 6 by omega)]; rfl) ?_
    walk_at "rd"
    refine ⟨a, _, ha, trivial, fun od => ?_⟩
    refine ⟨_, rfl, a, od, rfl, .inl ⟨kvs, upd_same, fun D hD => ?_⟩⟩
    have nD : D ≠ a := fun e => by rw [e, upd_same] at hD; cases hD
    refine lc_it walk_keys (fun i H1 => H1 = upd (upd H a (.frz od (.dK kvs))) D (.lst (List.replicate i (.bl true)))) rfl (fun i H1 _ e => ?_) (fun i x H1 H2 hi e y => ?_) (fun H1 e => ?_)
    · subst e
      rw [upd_ne (Ne.symm nD), upd_same]
    · subst e
      obtain ⟨rfl, k, v, hkv, rfl⟩ := y
      obtain ⟨s, hs, rfl⟩ : ∃ s, s ∈ ks ∧ k = Sum.inr s := by
        have : k ∈ ks.map Sum.inr := by rw [← hk]; exact List.mem_map.mpr ⟨(k, v), List.mem_of_getElem? hkv, rfl⟩
        obtain ⟨s, h1, h2⟩ := List.mem_map.mp this
        exact ⟨s, h1, h2.symm⟩
      walk_at "rd"
      have li : i < 7 := by omega
      refine ⟨us s hs, _, upd_same, size_le (by simp only [List.length_replicate]; omega), ?_⟩
      rw [upd_again, List.replicate_succ']
    · subst e
      refine ⟨by rw [upd_ne (Ne.symm nD), upd_same], ?_⟩
      refine ⟨D, List.replicate kvs.length true, rfl, .inl (Rd.of ?_), ?_⟩
      · rw [upd_ne nD, upd_same, List.map_replicate]
      · rw [show (List.replicate kvs.length true).all id = true by simp]
        refine q _ (keep_lock ha (keep_new ?_))
        exact hD
theorem ok__are_groups (T : Txt K mg A) : FnOk P w K mg base CX0 3 A.f__are_groups A.d__are_groups ["value"] (fun vs H Q _ => ∃ x xs, vs = [x] ∧ Sq H x xs ∧ Uss xs ∧ xs.Nodup ∧ 1 ≤ xs.length ∧ xs.length ≤ 6 ∧ ∀ H', Keep [] H H' → Q (.bl true) H') := by
  refine T.F__are_groups.ok sc__are_groups (fun vs H Q E h => ?_) (fun cdv A_ outer s_ H vs Q E hr h => ?_)
  · obtain ⟨x, xs, rfl, _⟩ := h
    rfl
  · obtain ⟨x, xs, rfl, hx, us, nd, l1, l2, q⟩ := h
    refine ⟨_, (pss_cons (ps_if (PW.pt (pw_or (pt_not (pt_val (pe_call (ok_is_list T) (hr.mono (by decide)) (by rfl) T.g_is_list T.F_is_list.kp T.B_is_list .nil pass0 (pa_cons (pv 0) pa_nil)))) (pw_or1 (pt_not (pt_chain op_le op_le pe_int (pe_callB call_len_seq (by rfl) T.b_len PySem.boot_len (pa_cons (pv 0) pa_nil)) (pe_gc rfl T.c_MOST_GROUPS)))))) (pss_one (ps_ret pe_bl)) pss_nil)
  (pss_one (ps_ret (pe_and (pe_callB (cr_all rfl) (by rfl) T.b_all (by decide +kernel) (pa_cons (pe_lc (own := [("name", 1)]) (g := gName 1) rfl sc__are_groups.nd (pi_seq (pv 0)) (blkOk_by (own := [("name", 1)]) (N := N__are_groups) (sc := defScope s__are_groups) (by decide +kernel)) (fun _ _ _ _ _ => pg_name (i := 1) sc__are_groups.nd rfl (Or.inl rfl)) (fun _ _ _ _ _ => pts_nil) (fun _ _ _ _ _ => (pe_call (ok_is_user_name T) (hr.mono (by decide)) (by rfl) T.g_is_user_name T.F_is_user_name.kp T.B_is_user_name .nil pass0 (pa_cons (pv 1) pa_nil)))) pa_nil)) (pe_one (pe_cmpR op_eq (pe_callB call_len_seq (by rfl) T.b_len PySem.boot_len (pa_cons (pv 0) pa_nil)) (pe_lenSetS (by rfl) T.b_len (by rfl) T.b_set (pv 0)) (nomark _))))))), ?_⟩
    obtain ⟨p, rfl, hp⟩ := id hx
    refine ⟨_, rfl, ?_⟩
    refine ⟨_, xs, rfl, hx, fun H1 k1 => ?_⟩
    have hx1 := hx.keep k1
    have hsq : SqL K H1 p (xs.map V.str) ∨ SqT K H1 p (xs.map V.str) := by
      obtain ⟨p', e, h⟩ := hx1.tx (K := K)
      cases e
      exact h
    refine ⟨_, rfl, ?_⟩
    refine ifF rfl ?_
    refine ⟨_, rfl, p, _, rfl, hsq, ?_⟩
    rw [List.length_map]
    refine ⟨_, _, rfl, rfl, _, rfl, ifT (decide_eq_true (by omega)) ?_⟩
    refine ⟨_, _, rfl, rfl, _, rfl, ?_⟩
    refine ifF (by rw [decide_eq_true (show (xs.length : Int) ≤ 6 by omega)]; rfl) ?_
    walk_at "rd"
    have fin : ∀ H2, Keep [] H1 H2 → Q (.bl true) H2 := fun H2 k2 => q H2 (k1.trans k2)
    have one : (once [] xs).length = xs.length := by rw [once_free xs [] nd (fun _ _ h => absurd h List.not_mem_nil)]; simp
    have txs : ∀ H2, Keep [] H1 H2 → TxSq K H2 (.ref p) xs := fun H2 k2 => (hx1.keep k2).tx
    have sqs : ∀ H2, Keep [] H1 H2 → SqL K H2 p (xs.map V.str) ∨ SqT K H2 p (xs.map V.str) := fun H2 k2 => by
      obtain ⟨p', e, h⟩ := txs H2 k2
      cases e
      exact h
    rcases hp with hp | hp
    · refine .inl ⟨_, .inl (Rd.of (k1 _ _ hp (by simp))), fun D hD => ?_⟩
      refine lc_it (walk_list (xs := xs.map V.str)) (fun i H2 => H2 = upd H1 D (.lst (List.replicate i (.bl true)))) rfl (fun i H2 _ e => ?_) (fun i x H2 H3 hi e y => ?_) (fun H2 e => ?_)
      · subst e
        exact .inl (Rd.of ((keep_new hD) _ _ (k1 _ _ hp (by simp)) (by simp)))
      · subst e
        obtain ⟨rfl, hx⟩ := y
        obtain ⟨s, hs, rfl⟩ : ∃ s, s ∈ xs ∧ x = V.str s := by
          obtain ⟨s, h1, h2⟩ := List.mem_map.mp (List.mem_of_getElem? hx)
          exact ⟨s, h1, h2.symm⟩
        walk_at "rd"
        have li : i < 7 := by rw [List.length_map] at hi; omega
        refine ⟨us s hs, _, upd_same, size_le (by simp only [List.length_replicate]; omega), ?_⟩
        rw [upd_again, List.replicate_succ']
      · subst e
        rw [List.length_map]
        refine ⟨D, List.replicate xs.length true, rfl, .inl (Rd.of ?_), ?_⟩
        · rw [upd_same, List.map_replicate]
        rw [show (List.replicate xs.length true).all id = true by simp]
        have k2 : Keep [] H1 (upd H1 D (.lst (List.replicate xs.length (.bl true)))) := keep_new hD
        refine ⟨true, rfl, ifT rfl ?_⟩
        refine ⟨_, rfl, p, _, rfl, sqs _ k2, ?_⟩
        refine ⟨_, rfl, xs, txs _ k2, by omega, ?_⟩
        walk_at "rd"
        show Q (.bl (decide (V.int ((xs.map V.str).length : Nat) = V.int ((once [] xs).length : Nat)))) _
        rw [List.length_map, one, decide_eq_true rfl]
        exact fin _ k2
    · refine .inr ⟨_, .inl (Rd.of (k1 _ _ hp (by simp))), fun D hD => ?_⟩
      refine lc_it (walk_tup (xs := xs.map V.str)) (fun i H2 => H2 = upd H1 D (.lst (List.replicate i (.bl true)))) rfl (fun i H2 _ e => ?_) (fun i x H2 H3 hi e y => ?_) (fun H2 e => ?_)
      · subst e
        exact .inl (Rd.of ((keep_new hD) _ _ (k1 _ _ hp (by simp)) (by simp)))
      · subst e
        obtain ⟨rfl, hx⟩ := y
        obtain ⟨s, hs, rfl⟩ : ∃ s, s ∈ xs ∧ x = V.str s := by
          obtain ⟨s, h1, h2⟩ := List.mem_map.mp (List.mem_of_getElem? hx)
          exact ⟨s, h1, h2.symm⟩
        walk_at "rd"
        have li : i < 7 := by rw [List.length_map] at hi; omega
        refine ⟨us s hs, _, upd_same, size_le (by simp only [List.length_replicate]; omega), ?_⟩
        rw [upd_again, List.replicate_succ']
      · subst e
        rw [List.length_map]
        refine ⟨D, List.replicate xs.length true, rfl, .inl (Rd.of ?_), ?_⟩
        · rw [upd_same, List.map_replicate]
        rw [show (List.replicate xs.length true).all id = true by simp]
        have k2 : Keep [] H1 (upd H1 D (.lst (List.replicate xs.length (.bl true)))) := keep_new hD
        refine ⟨true, rfl, ifT rfl ?_⟩
        refine ⟨_, rfl, p, _, rfl, sqs _ k2, ?_⟩
        refine ⟨_, rfl, xs, txs _ k2, by omega, ?_⟩
        walk_at "rd"
        show Q (.bl (decide (V.int ((xs.map V.str).length : Nat) = V.int ((once [] xs).length : Nat)))) _
        rw [List.length_map, one, decide_eq_true rfl]
        exact fin _ k2
end
end K23
namespace K23
open PySem PySem.Spec PyProof.Rows L2 FR TL
/-! people as a list of users with their groups -/
abbrev Mp := List (Str × List Str)
def mget (m : Mp) (u : Str) : List Str := ((m.find? fun e => decide (e.1 = u)).map (·.2)).getD []
structure Mk (m : Mp) : Prop where
  nd : (m.map (·.1)).Nodup
  us : ∀ e ∈ m, Us e.1
  gs : ∀ e ∈ m, Uss e.2 ∧ e.2.Nodup ∧ 1 ≤ e.2.length ∧ e.2.length ≤ 6
  l1 : 1 ≤ m.length
  l6 : m.length ≤ 6
  few : ∃ G : List Str, G.length ≤ 6 ∧ ∀ e ∈ m, ∀ g ∈ e.2, g ∈ G
theorem mget_mem : ∀ {m : Mp} {e : Str × List Str}, (m.map (·.1)).Nodup → e ∈ m → mget m e.1 = e.2
  | [], _, _, h => absurd h List.not_mem_nil
  | x :: r, e, nd, h => by
    rw [List.map_cons, List.nodup_cons] at nd
    unfold mget
    by_cases c : x.1 = e.1
    · rw [List.find?_cons_of_pos (by simpa using c)]
      rcases List.mem_cons.mp h with rfl | h
      · rfl
      · exact absurd (List.mem_map.mpr ⟨e, h, c.symm⟩) nd.1
    · rw [List.find?_cons_of_neg (by simpa using c)]
      rcases List.mem_cons.mp h with rfl | h
      · exact absurd rfl c
      · exact mget_mem nd.2 h
theorem mget_map {m : Mp} (nd : (m.map (·.1)).Nodup) : (m.map (·.1)).map (fun u => (u, mget m u)) = m := by
  rw [List.map_map]
  conv => rhs; rw [← List.map_id m]
  refine List.map_congr_left fun e he => ?_
  show (e.1, mget m e.1) = e
  rw [mget_mem nd he]
theorem srt_perm' {xs zs : List Str} (q : xs.Perm zs) : srt xs = srt zs := by
  by_cases h : ∃ ys : List Str, ys.Perm xs ∧ sortedS ys = true
  · obtain ⟨ys, p, s⟩ := h
    exact srt_perm p s q
  · unfold srt
    rw [dif_neg h, dif_neg fun ⟨ys, p, s⟩ => h ⟨ys, p.trans q.symm, s⟩]
noncomputable def sm (m : Mp) : Mp := (srt (m.map (·.1))).map fun u => (u, mget m u)
def flatM (m : Mp) : List Str := (m.map (·.2)).flatten
noncomputable def gsOf (m : Mp) : List Str := srt (once [] (flatM m))
theorem sm_eq {m : Mp} {ys : List Str} (p : ys.Perm (m.map (·.1))) (h : sortedS ys = true) : sm m = ys.map fun u => (u, mget m u) := by
  unfold sm
  rw [← srt_eq p h]
theorem sm_perm {m : Mp} (nd : (m.map (·.1)).Nodup) {ys : List Str} (p : ys.Perm (m.map (·.1))) (h : sortedS ys = true) : (sm m).Perm m := by
  rw [sm_eq p h]
  have := p.map fun u => (u, mget m u)
  rwa [mget_map nd] at this
theorem sm_keys {m : Mp} {ys : List Str} (p : ys.Perm (m.map (·.1))) (h : sortedS ys = true) : (sm m).map (·.1) = ys := by
  rw [sm_eq p h, List.map_map]
  exact List.map_id _
theorem Mk.perm {m n : Mp} (h : Mk m) (p : n.Perm m) : Mk n where
  nd := (p.map _).nodup_iff.mpr h.nd
  us := fun e he => h.us e (p.mem_iff.mp he)
  gs := fun e he => h.gs e (p.mem_iff.mp he)
  l1 := by rw [p.length_eq]; exact h.l1
  l6 := by rw [p.length_eq]; exact h.l6
  few := by
    obtain ⟨G, g1, g2⟩ := h.few
    exact ⟨G, g1, fun e he => g2 e (p.mem_iff.mp he)⟩
theorem mem_flatM {m : Mp} {g : Str} : g ∈ flatM m ↔ ∃ e ∈ m, g ∈ e.2 := by
  unfold flatM
  rw [List.mem_flatten]
  constructor
  · rintro ⟨l, hl, hg⟩
    obtain ⟨e, he, rfl⟩ := List.mem_map.mp hl
    exact ⟨e, he, hg⟩
  · rintro ⟨e, he, hg⟩
    exact ⟨e.2, List.mem_map_of_mem he, hg⟩
theorem once_perm {a b : List Str} (h : ∀ x, x ∈ a ↔ x ∈ b) : (once [] a).Perm (once [] b) := by
  refine (List.perm_ext_iff_of_nodup (once_nodup a [] .nil) (once_nodup b [] .nil)).mpr fun x => ?_
  rw [once_mem, once_mem, h x]
theorem gs_perm {m n : Mp} (p : n.Perm m) : gsOf n = gsOf m := srt_perm' (once_perm fun x => by
  rw [mem_flatM, mem_flatM]
  exact ⟨fun ⟨e, he, hx⟩ => ⟨e, p.mem_iff.mp he, hx⟩, fun ⟨e, he, hx⟩ => ⟨e, p.mem_iff.mpr he, hx⟩⟩)
theorem mget_perm {m n : Mp} (nd : (m.map (·.1)).Nodup) (p : n.Perm m) (u : Str) : mget n u = mget m u := by
  by_cases h : u ∈ m.map (·.1)
  · obtain ⟨e, he, rfl⟩ := List.mem_map.mp h
    rw [mget_mem nd he, mget_mem ((p.map _).nodup_iff.mpr nd) (p.mem_iff.mpr he)]
  · have no : ∀ {k : Mp}, u ∉ k.map (·.1) → mget k u = [] := fun {k} hk => by
      unfold mget
      rw [List.find?_eq_none.mpr fun e he c => hk (List.mem_map.mpr ⟨e, he, of_decide_eq_true c⟩)]
      rfl
    rw [no h, no fun hn => h ((p.map _).mem_iff.mp hn)]
theorem sm_perm2 {m n : Mp} (nd : (m.map (·.1)).Nodup) (p : n.Perm m) : sm n = sm m := by
  unfold sm
  rw [srt_perm' (p.map _)]
  exact List.map_congr_left fun u _ => by rw [mget_perm nd p]
theorem once_few {m : Mp} (h : Mk m) : (once [] (flatM m)).length ≤ 6 := by
  obtain ⟨G, g1, g2⟩ := h.few
  have nd := once_nodup (flatM m) [] .nil
  have sub : ∀ x ∈ once [] (flatM m), x ∈ G := fun x hx => by
    rw [once_mem, mem_flatM] at hx
    obtain hx | ⟨e, he, hx⟩ := hx
    · exact absurd hx List.not_mem_nil
    · exact g2 e he x hx
  exact Nat.le_trans (nd.length_le_of_subset sub) g1
theorem flat_len {m : Mp} (h : Mk m) : (flatM m).length ≤ 36 := by
  unfold flatM
  rw [List.length_flatten]
  have : ((m.map (·.2)).map List.length).sum ≤ ((m.map (·.2)).map List.length).length * 6 := by
    have all : ∀ l ∈ (m.map (·.2)).map List.length, l ≤ 6 := fun l hl => by
      obtain ⟨x, hx, rfl⟩ := List.mem_map.mp hl
      obtain ⟨e, he, rfl⟩ := List.mem_map.mp hx
      exact (h.gs e he).2.2.2
    generalize (m.map (·.2)).map List.length = L at all
    induction L with
    | nil => simp
    | cons a r ih =>
      rw [List.sum_cons, List.length_cons, Nat.add_one_mul]
      have h1 := all a List.mem_cons_self
      have h2 := ih fun l hl => all l (List.mem_cons_of_mem _ hl)
      omega
  have l6 := h.l6
  simp only [List.length_map] at this
  omega
/-! how it stands in the heap -/
def RL (H : Hp) (x : V) (xs : List Str) : Prop := ∃ p, x = .ref p ∧ H p = some (.lst (xs.map V.str))
def RT (H : Hp) (x : V) (xs : List Str) : Prop := ∃ p, x = .ref p ∧ H p = some (.tup (xs.map V.str))
theorem RL.keep {H H' : Hp} {x : V} {xs : List Str} (h : RL H x xs) (k : Keep [] H H') : RL H' x xs := by
  obtain ⟨p, rfl, h⟩ := h
  exact ⟨p, rfl, k _ _ h (by simp)⟩
theorem RT.keep {H H' : Hp} {x : V} {xs : List Str} (h : RT H x xs) (k : Keep [] H H') : RT H' x xs := by
  obtain ⟨p, rfl, h⟩ := h
  exact ⟨p, rfl, k _ _ h (by simp)⟩
theorem RL.sq {H : Hp} {x : V} {xs : List Str} (h : RL H x xs) : Sq H x xs := h.imp fun _ ⟨e, h⟩ => ⟨e, .inl h⟩
theorem RT.sq {H : Hp} {x : V} {xs : List Str} (h : RT H x xs) : Sq H x xs := h.imp fun _ ⟨e, h⟩ => ⟨e, .inr h⟩
def DM (R : V → List Str → Prop) : List (L2.Key × V) → Mp → Prop := Paired fun kv e => kv.1 = Sum.inr e.1 ∧ R kv.2 e.2
theorem DM.imp {R S : V → List Str → Prop} {kvs : List (L2.Key × V)} {m : Mp} (h : DM R kvs m) (f : ∀ x xs, R x xs → S x xs) : DM S kvs m := Paired.mapP h fun _ _ ⟨e, r⟩ => ⟨e, f _ _ r⟩
theorem DM.len {R : V → List Str → Prop} {kvs : List (L2.Key × V)} {m : Mp} (h : DM R kvs m) : kvs.length = m.length := Paired.length h
theorem DM.keys {R : V → List Str → Prop} {kvs : List (L2.Key × V)} {m : Mp} (h : DM R kvs m) : kvs.map (·.1) = (m.map (·.1)).map Sum.inr := by
  unfold DM at h
  induction h with
  | nil => rfl
  | cons h t ih => rw [List.map_cons, List.map_cons, List.map_cons, ih, h.1]
theorem DM.val {R : V → List Str → Prop} {kvs : List (L2.Key × V)} {m : Mp} (h : DM R kvs m) {u : Str} (hu : u ∈ m.map (·.1)) : ∃ v, valV kvs (Sum.inr u) = some v ∧ R v (mget m u) := by
  unfold DM at h
  induction h with
  | nil => exact absurd hu List.not_mem_nil
  | @cons kv e a b h t ih =>
    by_cases c : e.1 = u
    · refine ⟨kv.2, valV_pos (by rw [h.1, c]), ?_⟩
      unfold mget
      rw [List.find?_cons_of_pos (by simpa using c)]
      exact h.2
    · rw [List.map_cons] at hu
      obtain ⟨v, h1, h2⟩ := ih ((List.mem_cons.mp hu).resolve_left fun z => c z.symm)
      refine ⟨v, by rw [valV_neg (by rw [h.1]; exact fun z => c (Sum.inr.inj z))]; exact h1, ?_⟩
      unfold mget
      rw [List.find?_cons_of_neg (by simpa using c)]
      exact h2
theorem DM.no {R : V → List Str → Prop} {kvs : List (L2.Key × V)} {m : Mp} (h : DM R kvs m) {u : Str} (hu : u ∉ m.map (·.1)) : valV kvs (Sum.inr u) = none := by
  unfold DM at h
  induction h with
  | nil => rfl
  | @cons kv e a b h t ih =>
    rw [List.map_cons, List.mem_cons, not_or] at hu
    rw [valV_neg (by rw [h.1]; exact fun z => hu.1 (Sum.inr.inj z).symm)]
    exact ih hu.2
theorem DM.get {R : V → List Str → Prop} {kvs : List (L2.Key × V)} {m : Mp} (h : DM R kvs m) {i : Nat} {k : L2.Key} {v : V} (hi : kvs[i]? = some (k, v)) : ∃ e, m[i]? = some e ∧ k = Sum.inr e.1 ∧ R v e.2 := by
  unfold DM at h
  induction h generalizing i with
  | nil => simp at hi
  | @cons kv e a b h t ih =>
    cases i with
    | zero =>
      obtain rfl : kv = (k, v) := by simpa using hi
      exact ⟨e, rfl, h⟩
    | succ i => exact ih (by simpa using hi)
theorem DM.snoc {R : V → List Str → Prop} {kvs : List (L2.Key × V)} {m : Mp} (h : DM R kvs m) {u : Str} {v : V} {xs : List Str} (r : R v xs) (hu : u ∉ m.map (·.1)) : putK kvs (Sum.inr u) v = kvs ++ [(Sum.inr u, v)] ∧ DM R (kvs ++ [(Sum.inr u, v)]) (m ++ [(u, xs)]) := by
  refine ⟨?_, ?_⟩
  · unfold putK
    rw [valV_any, h.no hu]
    rfl
  · clear hu
    unfold DM at h ⊢
    induction h with
    | nil => exact .cons ⟨rfl, r⟩ .nil
    | cons h t ih => exact .cons h ih
structure Ppl (C : Addr) (H : Hp) (p : Addr) (M : Mp) (gs : List Str) (d g dx : Addr) (kvs : List (L2.Key × V)) : Prop where
  ob : H p = some (.ins C dx [("_held", .ref d), ("_groups", .ref g)])
  hd : H d = some (.dK kvs)
  dm : DM (RT H) kvs M
  hg : H g = some (.lst (gs.map V.str))
  gd : Mk M
  gm : ∀ x, x ∈ gs ↔ ∃ e ∈ M, x ∈ e.2
  gl : gs.length ≤ 6
def Pp (C : Addr) (H : Hp) (p : Addr) (M : Mp) (gs : List Str) : Prop := ∃ d g dx kvs, Ppl C H p M gs d g dx kvs
theorem Ppl.keep {C : Addr} {H H' : Hp} {p : Addr} {M : Mp} {gs : List Str} {d g dx : Addr} {kvs : List (L2.Key × V)} (h : Ppl C H p M gs d g dx kvs) (k : Keep [] H H') : Ppl C H' p M gs d g dx kvs :=
  ⟨k _ _ h.ob (by simp), k _ _ h.hd (by simp), h.dm.imp fun _ _ r => r.keep k, k _ _ h.hg (by simp), h.gd, h.gm, h.gl⟩
theorem Pp.keep {C : Addr} {H H' : Hp} {p : Addr} {M : Mp} {gs : List Str} (h : Pp C H p M gs) (k : Keep [] H H') : Pp C H' p M gs := by
  obtain ⟨d, g, dx, kvs, h⟩ := h
  exact ⟨d, g, dx, kvs, h.keep k⟩
section
variable {P : Program} {w : World} {K : PySem.W.Frag} {mg : Str → Option Value} {base : Heap} {A : Ads}
set_option pp.maxSteps 120
theorem ok_People_users (T : Txt K mg A) : FnOk P w K mg base CX0 1 A.f_People_users A.d_People_users ["self"] (fun vs H Q _ => ∃ p M gs, vs = [.ref p] ∧ Pp A.C_People H p M gs ∧ NewO (.lst ((M.map (·.1)).map V.str)) Q H) := by
  refine T.F_People_users.ok sc_People_users (fun vs H Q E h => ?_) (fun cdv A_ outer s_ H vs Q E hr h => ?_)
  · obtain ⟨p, M, gs, rfl, _⟩ := h
    rfl
  · obtain ⟨p, M, gs, rfl, ⟨d, g, dx, kvs, h⟩, q⟩ := h
    refine ⟨_, (pss_one (ps_ret (pe_callTy (call_listD rfl) (by rfl) T.b_list (by decide +kernel) (pa_cons (pe_fld (pv 0) rfl) pa_nil)))), ?_⟩
    refine ⟨_, rfl, p, _, dx, _, _, rfl, h.ob, T.cl_People, T.na_People__held, rfl, ?_⟩
    refine ⟨d, kvs, rfl, Rd.of h.hd, fun l hl => ?_⟩
    have e : kvs.map (fun kv => kV kv.1) = (M.map (·.1)).map V.str := by
      rw [show (fun kv : L2.Key × V => kV kv.1) = kV ∘ (·.1) from rfl, ← List.map_map, h.dm.keys, List.map_map]
      rfl
    rw [e]
    exact q.all l hl
theorem ok_People_groups (T : Txt K mg A) : FnOk P w K mg base CX0 1 A.f_People_groups A.d_People_groups ["self"] (fun vs H Q _ => ∃ p M gs, vs = [.ref p] ∧ Pp A.C_People H p M gs ∧ NewO (.lst (gs.map V.str)) Q H) := by
  refine T.F_People_groups.ok sc_People_groups (fun vs H Q E h => ?_) (fun cdv A_ outer s_ H vs Q E hr h => ?_)
  · obtain ⟨p, M, gs, rfl, _⟩ := h
    rfl
  · obtain ⟨p, M, gs, rfl, ⟨d, g, dx, kvs, h⟩, q⟩ := h
    refine ⟨_, (pss_one (ps_ret (pe_callTy call_lofN (by rfl) T.b_list (by decide +kernel) (pa_cons (pe_fld (pv 0) rfl) pa_nil)))), ?_⟩
    refine ⟨_, rfl, p, _, dx, _, _, rfl, h.ob, T.cl_People, T.na_People__groups, rfl, ?_⟩
    exact ⟨g, _, rfl, .inl (.inl (Rd.of h.hg)), q⟩
/-- what stands on the left of `in`: a text, or anything that is none -/
def spHas (C : Addr) (K : PySem.W.Frag) : Sp := fun vs H Q _ => ∃ p M gs v, vs = [.ref p, v] ∧ Pp C H p M gs ∧ ((∃ s, v = .str s ∧ Q (.bl (decide (s ∈ M.map (·.1)))) H) ∨ ∃ t, TyX K H v (.type t) ∧ kitB t "str" = some false ∧ Q (.bl false) H)
theorem ok_People___contains__ (T : Txt K mg A) : FnOk P w K mg base CX0 1 A.f_People___contains__ A.d_People___contains__ ["self", "value"] (spHas A.C_People K) := by
  refine T.F_People___contains__.ok sc_People___contains__ (fun vs H Q E h => ?_) (fun cdv A_ outer s_ H vs Q E hr h => ?_)
  · obtain ⟨p, M, gs, v, rfl, _⟩ := h
    rfl
  · obtain ⟨p, M, gs, v, rfl, ⟨d, g, dx, kvs, h⟩, q⟩ := h
    refine ⟨_, (pss_one (ps_ret (pe_and (pe_callB call_isi (by rfl) T.b_isinstance (by decide +kernel) (pa_cons (pv 1) (pa_cons (pe_bltn (v := .ty "str") rfl T.b_str (by decide +kernel) rfl) pa_nil))) (pe_one (pe_cmp (pc_din (hu_of hr) (pv 1) (pe_fld (pv 0) rfl))))))), ?_⟩
    rcases q with ⟨s, rfl, q⟩ | ⟨t, ty, k, q⟩
    · refine ⟨_, rfl, ?_⟩
      refine ⟨_, _, _, _, _, rfl, .ty _, TyX.base (.str s), kit_ty ki_str_str, ?_⟩
      refine ⟨true, rfl, ?_⟩
      rw [if_pos rfl]
      refine ⟨_, rfl, _, rfl, p, _, dx, _, _, rfl, h.ob, T.cl_People, T.na_People__held, rfl, ?_⟩
      refine ⟨d, _, rfl, .inl ⟨kvs, Sum.inr s, Rd.of h.hd, rfl, rfl⟩, ?_⟩
      have e : (valV kvs (Sum.inr s)).isSome = decide (s ∈ M.map (·.1)) := by
        by_cases c : s ∈ M.map (·.1)
        · obtain ⟨v, e, _⟩ := h.dm.val c
          rw [e, decide_eq_true c]; rfl
        · rw [h.dm.no c, decide_eq_false c]; rfl
      rw [e]
      exact q
    · refine ⟨_, rfl, ?_⟩
      refine ⟨_, _, _, _, _, rfl, .ty _, ty, kit_ty k, ?_⟩
      refine ⟨false, rfl, ?_⟩
      rw [if_neg Bool.false_ne_true]
      exact q
theorem ok_People___len__ (T : Txt K mg A) : FnOk P w K mg base CX0 1 A.f_People___len__ A.d_People___len__ ["self"] (fun vs H Q _ => ∃ p M gs, vs = [.ref p] ∧ Pp A.C_People H p M gs ∧ Q (.int M.length) H) := by
  refine T.F_People___len__.ok sc_People___len__ (fun vs H Q E h => ?_) (fun cdv A_ outer s_ H vs Q E hr h => ?_)
  · obtain ⟨p, M, gs, rfl, _⟩ := h
    rfl
  · obtain ⟨p, M, gs, rfl, ⟨d, g, dx, kvs, h⟩, q⟩ := h
    refine ⟨_, (pss_one (ps_ret (pe_callB call_lenD (by rfl) T.b_len PySem.boot_len (pa_cons (pe_fld (pv 0) rfl) pa_nil)))), ?_⟩
    refine ⟨_, rfl, p, _, dx, _, _, rfl, h.ob, T.cl_People, T.na_People__held, rfl, ?_⟩
    refine ⟨d, kvs, rfl, h.hd, ?_⟩
    rw [h.dm.len]
    exact q
theorem ok_People_groups_of (T : Txt K mg A) : FnOk P w K mg base CX0 2 A.f_People_groups_of A.d_People_groups_of ["self", "user"] (fun vs H Q _ => ∃ p M gs u, vs = [.ref p, .str u] ∧ Pp A.C_People H p M gs ∧ u ∈ M.map (·.1) ∧ NewO (.lst ((mget M u).map V.str)) Q H) := by
  refine T.F_People_groups_of.ok sc_People_groups_of (fun vs H Q E h => ?_) (fun cdv A_ outer s_ H vs Q E hr h => ?_)
  · obtain ⟨p, M, gs, u, rfl, _⟩ := h
    rfl
  · obtain ⟨p, M, gs, u, rfl, ⟨d, g, dx, kvs, h⟩, hu, q⟩ := h
    refine ⟨_, (pss_cons (ps_if (pt_cmpR (op_notInI T.me_People___contains__.at_ T.me_People___contains__.fn ((ok_People___contains__ T).raw T.B_People___contains__ .nil) (hr.mono (by decide)) pass0) (pv 1) (pv 0) rfl) (pss_one ps_never) pss_nil)
  (pss_one (ps_ret (pe_callTy call_lofN (by rfl) T.b_list (by decide +kernel) (pa_cons (pe_dget (hu_of hr) (pe_fld (pv 0) rfl) (pv 1) (fun _ _ => rfl)) pa_nil))))), ?_⟩
    refine ⟨_, rfl, _, rfl, p, dx, _, rfl, h.ob, ?_⟩
    refine ⟨p, M, gs, _, rfl, ⟨d, g, dx, kvs, h⟩, .inl ⟨u, rfl, ?_⟩⟩
    refine ⟨_, rfl, ?_⟩
    rw [decide_eq_true hu]
    refine ⟨_, rfl, ?_⟩
    refine ifF rfl ?_
    refine ⟨_, rfl, p, _, dx, _, _, rfl, h.ob, T.cl_People, T.na_People__held, rfl, _, rfl, ?_⟩
    obtain ⟨v, h1, q', rfl, h2⟩ := h.dm.val hu
    refine ⟨d, _, rfl, .inl ⟨kvs, Sum.inr u, Rd.of h.hd, rfl, h1.symm⟩, ?_⟩
    exact ⟨q', _, rfl, .inr (.inl (Rd.of h2)), q⟩
theorem ok_People_first_group (T : Txt K mg A) : FnOk P w K mg base CX0 3 A.f_People_first_group A.d_People_first_group ["self", "user"] (fun vs H Q _ => ∃ p M gs u x xs, vs = [.ref p, .str u] ∧ Pp A.C_People H p M gs ∧ u ∈ M.map (·.1) ∧ mget M u = x :: xs ∧ ∀ H', Keep [] H H' → Q (.str x) H') := by
  refine T.F_People_first_group.ok sc_People_first_group (fun vs H Q E h => ?_) (fun cdv A_ outer s_ H vs Q E hr h => ?_)
  · obtain ⟨p, M, gs, u, x, xs, rfl, _⟩ := h
    rfl
  · obtain ⟨p, M, gs, u, x, xs, rfl, ⟨d, g, dx, kvs, h⟩, hu, e, q⟩ := h
    refine ⟨_, (pss_one (ps_ret (pe_ix ix_list (pe_meth (pv 0) T.cl_People T.me_People_groups_of (ok_People_groups_of T) (hr.mono (by decide)) T.B_People_groups_of .nil pass0 (pa_cons (pv 1) pa_nil)) pe_int (fun _ _ => rfl)))), ?_⟩
    refine ⟨_, rfl, p, dx, _, rfl, h.ob, rfl, _, rfl, ?_⟩
    refine ⟨p, M, gs, u, rfl, ⟨d, g, dx, kvs, h⟩, hu, NewO.mk fun l H1 nl k1 h1 => ?_⟩
    rw [e] at h1
    exact ⟨l, _, _, _, rfl, rfl, .inl (.inl h1), (show atI _ ((0 : Nat) : Int) = _ from atI_nat rfl), q H1 k1⟩
end
end K23
namespace K23
open PySem PySem.Spec PyProof.Rows L2 FR TL
open C8 (pss_cut pe_gc)
section
variable {P : Program} {w : World} {K : PySem.W.Frag} {mg : Str → Option Value} {base : Heap} {A : Ads}
set_option pp.maxSteps 120
def having (M : Mp) (g : Str) : List Str := (M.filter fun e => decide (g ∈ e.2)).map (·.1)
theorem having_snoc {M : Mp} {i : Nat} {e : Str × List Str} {g : Str} (h : M[i]? = some e) : having (M.take (i + 1)) g = having (M.take i) g ++ if g ∈ e.2 then [e.1] else [] := by
  unfold having
  rw [List.take_add_one, h]
  show ((M.take i ++ [e]).filter _).map _ = _
  rw [List.filter_append, List.map_append, List.filter_cons]
  congr 1
  by_cases c : g ∈ e.2 <;> simp [c]
theorem having_len (M : Mp) (g : Str) : (having M g).length ≤ M.length := by
  unfold having
  rw [List.length_map]
  exact List.length_filter_le _ _
/-! alike -/
def mEq (M N : Mp) : Bool := M.length == N.length && M.all fun e => decide ((N.find? fun x => decide (x.1 = e.1)).map (·.2) = some e.2)
def mD (tag : List PyData → PyData) (M : Mp) : List (L2.Key × PyData) := M.map fun e => (Sum.inr e.1, tag (e.2.map .str))
theorem valD_mD (tag : List PyData → PyData) (u : Str) : ∀ N : Mp, valD (mD tag N) (Sum.inr u) = ((N.find? fun x => decide (x.1 = u)).map (·.2)).map fun xs => tag (xs.map .str)
  | [] => rfl
  | x :: r => by
    have ih := valD_mD tag u r
    unfold mD valD at ih ⊢
    rw [List.map_cons]
    by_cases c : x.1 = u
    · rw [List.find?_cons_of_pos (by simpa using c), List.find?_cons_of_pos (by simpa using c)]
      rfl
    · rw [List.find?_cons_of_neg (by simpa using c), List.find?_cons_of_neg (by simpa using c)]
      exact ih
theorem eqDD_mEq {tag : List PyData → PyData} (ht : ∀ a b : List Str, PyData.eqv (tag (a.map .str)) (tag (b.map .str)) = decide (a = b)) {M N : Mp} : (false != eqDD (mD tag M) (mD tag N)) = mEq M N := by
  have e : (false != eqDD (mD tag M) (mD tag N)) = eqDD (mD tag M) (mD tag N) := by
    cases eqDD (mD tag M) (mD tag N) <;> rfl
  rw [e]
  clear e
  unfold eqDD mEq
  congr 1
  · unfold mD
    rw [List.length_map, List.length_map]
  · induction M with
    | nil => rfl
    | cons x r ih =>
      show (match valD (mD tag N) (Sum.inr x.1) with | none => false | some e => PyData.eqv (tag (x.2.map .str)) e && hitsD (mD tag N) (mD tag r)) = _
      rw [valD_mD, List.all_cons]
      cases z : (N.find? fun y => decide (y.1 = x.1)).map (·.2) with
      | none => simp
      | some ys =>
        show (PyData.eqv (tag (x.2.map .str)) (tag (ys.map .str)) && hitsD (mD tag N) (mD tag r)) = _
        rw [ht, ih]
        congr 1
        by_cases c : x.2 = ys
        · subst c; simp
        · rw [decide_eq_false c, decide_eq_false fun h => c (Option.some.inj h).symm]
theorem eqv_tups (a b : List Str) : PyData.eqv (.tuple (a.map .str)) (.tuple (b.map .str)) = decide (a = b) := by
  rw [PyData.eqv, eqv_strs2]
theorem shaped_tup {ws : List Str} (h : ∀ s ∈ ws, Asc s) : SeqAt.shaped (.tuple (ws.map .str)) = true := by
  have := shaped_strs h
  unfold SeqAt.shaped dStrs at *
  rw [PyData.canLay0, lay_strs h, PyData.depth, depth_strs]
  rfl
theorem dpk_of {K : PySem.W.Frag} {H : Hp} {R : V → List Str → Prop} {kvs : List (L2.Key × V)} {tag : List PyData → PyData} (ht : ∀ ws : List Str, (∀ s ∈ ws, Asc s) → SeqAt.shaped (tag (ws.map .str)) = true) {M : Mp} (h : DM R kvs M) (gd : ∀ e ∈ M, ∀ s ∈ e.2, Asc s) (f : ∀ v xs, R v xs → Dp K H v (tag (xs.map .str))) : DpK K H kvs (mD tag M) := by
  unfold DM at h
  unfold DpK mD
  induction h with
  | nil => exact .nil
  | cons h t ih => exact .cons ⟨h.1, f _ _ h.2, ht _ (gd _ List.mem_cons_self)⟩ (ih fun e he => gd e (List.mem_cons_of_mem _ he))
theorem Mk.asc {M : Mp} (h : Mk M) : ∀ e ∈ M, ∀ s ∈ e.2, Asc s := fun e he s hs => ((h.gs e he).1 s hs).1.asc
theorem ok_People_members (T : Txt K mg A) : FnOk P w K mg base CX0 1 A.f_People_members A.d_People_members ["self", "group"] (fun vs H Q _ => ∃ p M gs b, vs = [.ref p, .str b] ∧ Pp A.C_People H p M gs ∧ b ∈ gs ∧ NewO (.lst ((having M b).map V.str)) Q H) := by
  refine T.F_People_members.ok sc_People_members (fun vs H Q E h => ?_) (fun cdv A_ outer s_ H vs Q E hr h => ?_)
  · obtain ⟨p, M, gs, b, rfl, _⟩ := h
    rfl
  · obtain ⟨p, M, gs, b, rfl, ⟨d, g, dx, kvs, h⟩, hb, q⟩ := h
    refine ⟨_, (pss_cons (ps_if (pt_cmpR op_notIn_seq (pv 1) (pe_fld (pv 0) rfl) rfl) (pss_one ps_never) pss_nil)
  (pss_one (ps_ret (pe_lock (pe_lc (own := [("user", 2)]) (g := gName 2) rfl sc_People_members.nd (pi_keys (pe_fld (pv 0) rfl)) (blkOk_by (own := [("user", 2)]) (N := N_People_members) (sc := defScope s_People_members) (by decide +kernel)) (fun _ _ _ _ _ => pg_name (i := 2) sc_People_members.nd rfl (Or.inl rfl)) (fun _ _ _ _ _ => (pts_one (pt_cmpR (op_in_seqK (K := K) rfl) (pv 1) (pe_dget (hu_of hr) (pe_fldK (K := K) rfl (pv 0) (by rfl)) (pv 2) (fun _ _ => rfl)) rfl))) (fun _ _ _ _ _ => (pv 2))))))), ?_⟩
    refine ⟨_, rfl, _, rfl, p, _, dx, _, _, rfl, h.ob, T.cl_People, T.na_People__groups, rfl, ?_⟩
    refine ⟨g, _, rfl, .inl (.inl (Rd.of h.hg)), rfl, FR.flat_strs _, _, rfl, ?_⟩
    refine ifF (by rw [in_strs, decide_eq_true hb]; rfl) ?_
    refine ⟨d, _, h.hd, trivial, fun od => ?_⟩
    have npd : p ≠ d := ne_of h.ob h.hd (fun z => by cases z)
    refine ⟨_, rfl, p, _, dx, _, _, rfl, (by rw [upd_ne npd]; exact h.ob), T.cl_People, T.na_People__held, rfl, d, od, rfl, .inl ⟨kvs, upd_same, fun D hD => ?_⟩⟩
    have nDd : D ≠ d := fun e => by rw [e, upd_same] at hD; cases hD
    have nDp : p ≠ D := fun e => by rw [← e, upd_ne npd, h.ob] at hD; cases hD
    refine lc_it walk_keys (fun i H1 => H1 = upd (upd H d (.frz od (.dK kvs))) D (.lst ((having (M.take i) b).map V.str))) rfl (fun i H1 _ e => ?_) (fun i x H1 H2 hi e y => ?_) (fun H1 e => ?_)
    · subst e
      rw [upd_ne (Ne.symm nDd), upd_same]
    · subst e
      obtain ⟨rfl, k, v, hkv, rfl⟩ := y
      obtain ⟨e, he, rfl, _⟩ := h.dm.get hkv
      have hem := List.mem_of_getElem? he
      obtain ⟨v', hv, q', rfl, h2⟩ := h.dm.val (List.mem_map_of_mem hem)
      rw [mget_mem h.gd.nd hem] at h2
      have nq : q' ≠ d := ne_of h2 h.hd (fun z => by cases z)
      have nqD : q' ≠ D := fun e => by rw [← e, upd_ne nq, h2] at hD; cases hD
      walk_at "rd"
      refine ⟨p, _, dx, _, _, rfl, (by rw [upd_ne nDp, upd_ne npd]; exact h.ob), T.cl_People, T.na_People__held, rfl, _, rfl, ?_⟩
      refine ⟨d, _, rfl, .inl ⟨kvs, Sum.inr e.1, .inr ⟨od, by rw [upd_ne (Ne.symm nDd), upd_same]⟩, rfl, hv.symm⟩, ?_⟩
      refine ⟨q', _, rfl, .inr (.inl (.inl (by rw [upd_ne nqD, upd_ne nq]; exact h2))), rfl, FR.flat_strs _, _, rfl, ?_⟩
      have hlen : ((having (M.take i) b).map V.str).length < sizeLine := by
        refine size_ok ?_
        rw [List.length_map]
        have h1 := having_len (M.take i) b
        have h3 := h.gd.l6
        rw [List.length_take] at h1
        omega
      rw [in_strs]
      show if decide (b ∈ e.2) = true then _ else _
      refine ifD (fun c => ?_) (fun c => ?_)
      · refine ⟨_, rfl, _, upd_same, hlen, ?_⟩
        rw [upd_again, having_snoc he, if_pos c, List.map_append]
        rfl
      · rw [having_snoc he, if_neg c, List.append_nil]
    · subst e
      refine ⟨by rw [upd_ne (Ne.symm nDd), upd_same], ?_⟩
      rw [h.dm.len, List.take_length]
      refine q.to D _ (by rw [upd_ne nDd] at hD; exact hD) (keep_lock h.hd (keep_new hD)) (by rw [upd_ne nDd, upd_same])
theorem ok_People___eq__ (T : Txt K mg A) : FnOk P w K mg base CX0 1 A.f_People___eq__ A.d_People___eq__ ["self", "other"] (fun vs H Q _ => ∃ p M gs v, vs = [.ref p, v] ∧ Pp A.C_People H p M gs ∧ ((∃ q N hs, v = .ref q ∧ Pp A.C_People H q N hs ∧ Q (.bl (mEq M N)) H) ∨ ((∃ a kvs, v = .ref a ∧ H a = some (.dK kvs)) ∨ ∃ i, v = .int i) ∧ Q (.bl false) H)) := by
  refine T.F_People___eq__.ok sc_People___eq__ (fun vs H Q E h => ?_) (fun cdv A_ outer s_ H vs Q E hr h => ?_)
  · obtain ⟨p, M, gs, v, rfl, _⟩ := h
    rfl
  · obtain ⟨p, M, gs, v, rfl, ⟨d, g, dx, kvs, h⟩, q⟩ := h
    refine ⟨_, (pss_one (ps_ret (pe_and (pe_callB (call_isA T.in_People) (by rfl) T.b_isinstance (by decide +kernel) (pa_cons (pv 1) (pa_cons (pe_gc rfl T.c_People) pa_nil))) (pe_one (pe_cmpR (op_eqDD (u65 hr)) (pe_fld (pv 0) rfl) (pe_fld (pv 1) rfl) (nomark _)))))), ?_⟩
    rcases q with ⟨r, N, hs, rfl, ⟨d', g', dx', kvs', h'⟩, q⟩ | ⟨⟨a, ks, rfl, ha⟩ | ⟨i, rfl⟩, q⟩
    · refine ⟨_, rfl, .inl ⟨r, dx', _, rfl, h'.ob, ?_⟩⟩
      refine ⟨true, rfl, ?_⟩
      rw [if_pos rfl]
      refine ⟨_, rfl, p, _, dx, _, _, rfl, h.ob, T.cl_People, T.na_People__held, rfl, ?_⟩
      refine ⟨_, rfl, r, _, dx', _, _, rfl, h'.ob, T.cl_People, T.na_People__held, rfl, ?_⟩
      refine ⟨d, d', kvs, kvs', mD .tuple M, mD .tuple N, rfl, rfl, .inl h.hd, .inl h'.hd, dpk_of (fun ws a => shaped_tup a) h.dm h.gd.asc fun v xs ⟨q, e, hq⟩ => ?_, dpk_of (fun ws a => shaped_tup a) h'.dm h'.gd.asc fun v xs ⟨q, e, hq⟩ => ?_, ?_⟩
      · subst e
        exact .tup (.inl (.inl hq)) (dpAll_strs _)
      · subst e
        exact .tup (.inl (.inl hq)) (dpAll_strs _)
      · rw [eqDD_mEq (fun a b => eqv_tups a b)]
        exact q
    · refine ⟨_, rfl, .inr ⟨_, _, _, _, _, rfl, .own _, .base (.dK ha), T.kt_People_dict, ?_⟩⟩
      refine ⟨false, rfl, ?_⟩
      rw [if_neg Bool.false_ne_true]
      exact q
    · refine ⟨_, rfl, .inr ⟨_, _, _, _, _, rfl, .own _, .base (.int _), T.kt_People_int, ?_⟩⟩
      refine ⟨false, rfl, ?_⟩
      rw [if_neg Bool.false_ne_true]
      exact q
end
end K23
namespace K23
open PySem PySem.Spec PyProof.Rows L2 FR TL
open C8 (pss_cut pe_gc)
section
variable {P : Program} {w : World} {K : PySem.W.Frag} {mg : Str → Option Value} {base : Heap} {A : Ads}
set_option pp.maxSteps 120
theorem flat_take {M : Mp} {i : Nat} {e : Str × List Str} (h : M[i]? = some e) : flatM (M.take (i + 1)) = flatM (M.take i) ++ e.2 := by
  unfold flatM
  rw [List.take_add_one, h]
  simp
theorem once_app (l xs ys : List Str) : once l (xs ++ ys) = once (once l xs) ys := by
  unfold once
  rw [List.foldl_append]
theorem flat_take_len {M : Mp} (h : Mk M) (i : Nat) : (flatM (M.take i)).length ≤ 36 := by
  by_cases c : M.take i = []
  · rw [c]; simp [flatM]
  · refine flat_len ⟨h.nd.sublist ((List.take_sublist i M).map _), fun e he => h.us e (List.mem_of_mem_take he), fun e he => h.gs e (List.mem_of_mem_take he), List.length_pos_iff.mpr c, Nat.le_trans (List.length_take_le' i M) h.l6, ?_⟩
    obtain ⟨G, g1, g2⟩ := h.few
    exact ⟨G, g1, fun e he => g2 e (List.mem_of_mem_take he)⟩
theorem Keep.to1 {H H' : Hp} {p : Addr} (k : Keep [] H H') : Keep [p] H H' := fun b o e _ => k b o e (by simp)
theorem Sq.keep1 {H H' : Hp} {p : Addr} {o : HO} {x : V} {xs : List Str} (h : Sq H x xs) (hp : H p = some o) (no : (∀ ys, o ≠ .lst ys) ∧ ∀ ys, o ≠ .tup ys) (k : Keep [p] H H') : Sq H' x xs := by
  obtain ⟨q, rfl, h | h⟩ := h
  · exact ⟨q, rfl, .inl (k _ _ h (by simpa using ne_of h hp (fun z => no.1 _ z.symm)))⟩
  · exact ⟨q, rfl, .inr (k _ _ h (by simpa using ne_of h hp (fun z => no.2 _ z.symm)))⟩
def spInit (C : Addr) : Sp := fun vs H Q _ => ∃ p dx a kvs m, vs = [.ref p, .ref a] ∧ H p = some (.ins C dx []) ∧ H a = some (.dK kvs) ∧ DM (Sq H) kvs m ∧ Mk m ∧ ∀ H' d g dx' ks, Keep [p] H H' → (sm m).Perm m → Ppl C H' p (sm m) (gsOf m) d g dx' ks → H d = none → H g = none → Q .non H'
theorem keep_free {H H' : Hp} {D : Addr} {o : HO} (k : Keep [] H H') (h : H D = none) : Keep [] H (upd H' D o) := fun b u e hb => by
  rw [upd_ne (ne_of_none e h)]
  exact k b u e hb
theorem RT.put {H : Hp} {D : Addr} {o o' : HO} {x : V} {xs : List Str} (r : RT H x xs) (h : H D = some o) (n : ∀ ys, o ≠ .tup ys) : RT (upd H D o') x xs := by
  obtain ⟨q, rfl, hq⟩ := r
  exact ⟨q, rfl, by rw [upd_ne (ne_of hq h fun z => n _ z.symm)]; exact hq⟩
theorem take_none {α : Type} {L : List α} {i : Nat} {x : α} (nd : L.Nodup) (h : L[i]? = some x) : x ∉ L.take i := fun hx => by
  obtain ⟨j, hj, e⟩ := List.mem_iff_getElem.mp hx
  rw [List.length_take] at hj
  rw [List.getElem_take] at e
  obtain ⟨hi, e2⟩ := List.getElem?_eq_some_iff.mp h
  have := (List.getElem?_inj hi nd).mp (h.trans (List.getElem?_eq_some_iff.mpr ⟨by omega, e⟩).symm)
  omega
theorem ok_People___init__ (T : Txt K mg A) : FnOk P w K mg base CX0 4 A.f_People___init__ A.d_People___init__ ["self", "members"] (spInit A.C_People) := by
  refine T.F_People___init__.ok sc_People___init__ (fun vs H Q E h => ?_) (fun cdv A_ outer s_ H vs Q E hr h => ?_)
  · obtain ⟨p, dx, a, kvs, m, rfl, _⟩ := h
    rfl
  · obtain ⟨p, dx, a, kvs, m, rfl, hp, ha, dm, gd, q⟩ := h
    refine ⟨_, (pss_cons (ps_if (pt_not (pt_val (pe_call (ok__are_users T) (hr.mono (by decide)) (by rfl) T.g__are_users T.F__are_users.kp T.B__are_users .nil pass0 (pa_cons (pv 1) pa_nil)))) (pss_one ps_never) pss_nil)
  (pss_cons (ps_for PassesOwn.never rfl (pi_list (pe_callB (call_sortedD rfl) (by rfl) T.b_sorted (by decide +kernel) (pa_cons (pv 1) pa_nil))) (pg_name (i := 2) sc_People___init__.nd rfl (.inl rfl)) (pss_one (ps_if (pt_not (pt_val (pe_call (ok__are_groups T) (hr.mono (by decide)) (by rfl) T.g__are_groups T.F__are_groups.kp T.B__are_groups .nil pass0 (pa_cons (pe_dget (hu_of hr) (pv 1) (pv 2) (fun _ _ => rfl)) pa_nil)))) (pss_one ps_never) pss_nil)))
  (pss_cons (ps_fld (pv 0) (pe_dc (own := [("user", 2)]) (g := gName 2) rfl sc_People___init__.nd (pi_list (pe_callB (call_sortedD rfl) (by rfl) T.b_sorted (by decide +kernel) (pa_cons (pv 1) pa_nil))) (blkOk_by (own := [("user", 2)]) (N := N_People___init__) (sc := defScope s_People___init__) (by decide +kernel)) (fun _ _ _ _ _ => pg_name (i := 2) sc_People___init__.nd rfl (Or.inl rfl)) (fun _ _ _ _ _ => pts_nil) (fun _ _ _ _ _ => (pv 2)) (fun _ _ _ _ _ => (pe_callTy (call_tuple_ofK (K := K) rfl) (by rfl) T.b_tuple (by decide +kernel) (pa_cons (pe_dget (hu_of hr) (pv 1) (pv 2) (fun _ _ => rfl)) pa_nil)))) rfl)
  (pss_cons (ps_fld (pv 0) (pe_callB (cr_sortSet rfl) (by rfl) T.b_sorted (by decide +kernel) (pa_cons (pe_lock (pe_sc2 (own := [("user", 2), ("group", 3)]) (vs1 := [3]) (g := gName 2) (g1 := gName 3) rfl sc_People___init__.nd (pi_keys (pe_fld (pv 0) rfl)) (blkOk_by (own := [("user", 2), ("group", 3)]) (N := N_People___init__) (sc := defScope s_People___init__) (by decide +kernel)) (by decide) (fun _ _ _ _ _ => pg_name (i := 2) sc_People___init__.nd rfl (Or.inl rfl)) (fun _ _ _ _ _ => (pi_tupK (K := K) rfl (pe_dget (hu_of hr) (pe_fldK (K := K) rfl (pv 0) (by rfl)) (pv 2) (fun _ _ => rfl)))) (fun _ _ _ _ _ => pg_name (i := 3) sc_People___init__.nd rfl (Or.inl rfl)) (fun _ _ _ _ _ => (pv 3)))) pa_nil)) rfl)
  (pss_one (ps_if (pt_cmpR op_gt (pe_callB call_len_seq (by rfl) T.b_len PySem.boot_len (pa_cons (pe_fld (pv 0) rfl) pa_nil)) (pe_gc rfl T.c_MOST_GROUPS) (nomark _)) (pss_one ps_never) pss_nil)))))), ?_⟩
    have ks := dm.keys
    refine ⟨_, rfl, a, kvs, m.map (·.1), rfl, ha, ks, fun s hs => ?_, by rw [List.length_map]; exact gd.l1, by rw [List.length_map]; exact gd.l6, fun H1 k1 => ?_⟩
    · obtain ⟨e, he, rfl⟩ := List.mem_map.mp hs
      exact gd.us e he
    refine ⟨_, rfl, ?_⟩
    refine ifF rfl ?_
    refine ⟨_, rfl, a, kvs, m.map (·.1), rfl, .inl (k1 _ _ ha (by simp)), ks, by rw [List.length_map]; have := gd.l6; omega, fun ys l py sy nl => ?_⟩
    refine ⟨l, rfl, ⟨_, .inl (.inl upd_same)⟩, ?_⟩
    have k2 : Keep [] H (upd H1 l (.lst (ys.map V.str))) := k1.trans (keep_new nl)
    have kl : ∀ H', Keep [] (upd H1 l (.lst (ys.map V.str))) H' → SqL K H' l (ys.map V.str) := fun H' k => .inl (.inl (k _ _ upd_same (by simp)))
    have ymem : ∀ y ∈ ys, y ∈ m.map (·.1) := fun y hy => py.mem_iff.mp hy
    refine for_li (xs := ys.map V.str) (fun pre σ H' => (∃ y2 y3, σ = [some (.ref p), some (.ref a), y2, y3]) ∧ Keep [] (upd H1 l (.lst (ys.map V.str))) H') ⟨⟨none, none, rfl⟩, Keep.refl⟩ (fun pre post σ H' _ h => kl H' h.2) ?_ ?_
    · rintro pre x post σ H' ex ⟨⟨y2, y3, rfl⟩, k3⟩
      obtain ⟨u, hu, rfl⟩ : ∃ u, u ∈ ys ∧ x = V.str u := by
        have : x ∈ ys.map V.str := by rw [ex]; simp
        obtain ⟨u, h1, h2⟩ := List.mem_map.mp this
        exact ⟨u, h1, h2.symm⟩
      obtain ⟨v, hv, hq⟩ := dm.val (ymem u hu)
      obtain ⟨e, he, eu⟩ := List.mem_map.mp (ymem u hu)
      subst eu
      rw [mget_mem gd.nd he] at hq
      have g := gd.gs e he
      have k4 := k2.trans k3
      refine ⟨_, rfl, _, rfl, a, v, rfl, .inl ⟨kvs, Sum.inr e.1, .inl (k4 _ _ ha (by simp)), rfl, hv.symm⟩, ?_⟩
      refine ⟨v, e.2, rfl, hq.keep k4, g.1, g.2.1, g.2.2.1, g.2.2.2, fun H5 k5 => ?_⟩
      refine ⟨_, rfl, ?_⟩
      refine ifF rfl ?_
      exact ⟨⟨_, _, rfl⟩, k3.trans k5⟩
    · rintro σ H2 ⟨⟨y2, y3, rfl⟩, k3⟩
      have k4 := k2.trans k3
      clear k2 k3 kl k1
      refine ⟨_, rfl, a, kvs, m.map (·.1), rfl, .inl (k4 _ _ ha (by simp)), ks, by rw [List.length_map]; have := gd.l6; omega, fun ys2 l2 py2 sy2 nl2 => ?_⟩
      have e2 : ys2 = ys := by rw [srt_eq py2 sy2, srt_eq py sy]
      subst e2
      clear py2 sy2
      have k5 : Keep [] H (upd H2 l2 (.lst (ys2.map V.str))) := k4.trans (keep_new nl2)
      have eM := sm_eq py sy
      have pM := sm_perm gd.nd py sy
      have gM := gd.perm pM
      have kM := sm_keys py sy
      have ynd : ys2.Nodup := py.nodup_iff.mpr gd.nd
      have h2l : (upd H2 l2 (.lst (ys2.map V.str))) l2 = some (.lst (ys2.map V.str)) := upd_same
      clear k4 nl2
      generalize upd H2 l2 (.lst (ys2.map V.str)) = H3 at k5 h2l ⊢
      refine ⟨l2, rfl, ⟨_, .inl (.inl h2l)⟩, fun D hD => ?_⟩
      have hD0 := hD
      have kD0 := k5
      refine dc_it (walk_list (xs := ys2.map V.str)) (fun i H' => ∃ ks', H' D = some (.dK ks') ∧ Keep [] H3 H' ∧ DM (RT H') ks' ((sm m).take i)) ⟨[], upd_same, keep_new hD, .nil⟩ (fun i H' _ h => ?_) (fun i x H' H4 hi h y => ?_) (fun H' h => ?_)
      · obtain ⟨_, _, k, _⟩ := h
        exact .inl (.inl (k _ _ h2l (by simp)))
      · obtain ⟨ks', hd', k6, dm'⟩ := h
        obtain ⟨rfl, hx⟩ := y
        rw [List.getElem?_map] at hx
        obtain ⟨u, hu, rfl⟩ := Option.map_eq_some_iff.mp hx
        have hum := ymem u (List.mem_of_getElem? hu)
        obtain ⟨v, hv, hq⟩ := dm.val hum
        have hMi : (sm m)[i]? = some (u, mget m u) := by rw [eM, List.getElem?_map, hu]; rfl
        have k7 := k5.trans k6
        have nin : u ∉ ((sm m).take i).map (·.1) := by
          rw [List.map_take, kM]
          exact take_none ynd hu
        have l6 : ks'.length < sizeLine := by
          refine size_ok ?_
          rw [dm'.len, List.length_take]
          have := gM.l6
          omega
        have tk : (sm m).take (i + 1) = (sm m).take i ++ [(u, mget m u)] := by rw [List.take_add_one, hMi]; rfl
        walk_at "rd"
        refine ⟨a, v, rfl, .inl ⟨kvs, Sum.inr u, .inl (k7 _ _ ha (by simp)), rfl, hv.symm⟩, ?_⟩
        obtain ⟨q', rfl, hq'⟩ := hq.keep k7
        rcases hq' with hq' | hq'
        · refine ⟨q', _, rfl, .inl ⟨.inl (.inl hq'), fun l hl => ?_⟩⟩
          have nl : l ≠ D := fun e => by rw [e, hd'] at hl; cases hl
          have hd2 : (upd H4 l (.tup ((mget m u).map V.str))) D = some (.dK ks') := by rw [upd_ne (Ne.symm nl)]; exact hd'
          obtain ⟨s1, s2⟩ := (dm'.imp fun _ _ r => (r.keep (keep_new (o := .tup ((mget m u).map V.str)) hl)).put (o' := .dK (ks' ++ [(Sum.inr u, .ref l)])) hd2 (fun _ z => by cases z)).snoc (v := .ref l) (xs := mget m u) ⟨l, rfl, by rw [upd_ne nl, upd_same]⟩ nin
          refine ⟨ks', Sum.inr u, rfl, hd2, l6, ks' ++ [(Sum.inr u, .ref l)], ?_, ?_, ?_⟩
          · rw [s1, upd_same]
          · exact keep_free (k6.trans (keep_new hl)) hD
          · rw [s1, tk]
            exact s2
        · refine ⟨q', _, rfl, .inr ⟨.inl (.inl hq'), ?_⟩⟩
          have nq : q' ≠ D := ne_of hq' hd' (fun z => by cases z)
          obtain ⟨s1, s2⟩ := (dm'.imp fun _ _ r => r.put (o' := .dK (ks' ++ [(Sum.inr u, .ref q')])) hd' (fun _ z => by cases z)).snoc (v := .ref q') (xs := mget m u) ⟨q', rfl, by rw [upd_ne nq]; exact hq'⟩ nin
          refine ⟨ks', Sum.inr u, rfl, hd', l6, ks' ++ [(Sum.inr u, .ref q')], ?_, ?_, ?_⟩
          · rw [s1, upd_same]
          · exact keep_free k6 hD
          · rw [s1, tk]
            exact s2
      · obtain ⟨ks', hd', k6, dm'⟩ := h
        rw [List.length_map] at dm'
        have lM : ys2.length = (sm m).length := by rw [eM, List.length_map]
        rw [lM, List.take_length] at dm'
        have k7 := k5.trans k6
        refine ⟨_, rfl, p, _, dx, _, rfl, k7 _ _ hp (by simp), T.cl_People, T.na_People__held, by decide, ?_⟩
        have np : p ≠ D := ne_of (k7 _ _ hp (by simp)) hd' (fun z => by cases z)
        have dm2 := dm'.imp fun _ _ r => r.put (o' := .ins A.C_People dx (putF (Str.ofString "_held") (.ref D) [])) (k7 _ _ hp (by simp)) (fun _ z => by cases z)
        have hd2 : upd H' p (.ins A.C_People dx (putF (Str.ofString "_held") (.ref D) [])) D = some (.dK ks') := by rw [upd_ne (Ne.symm np)]; exact hd'
        have hp2 : upd H' p (.ins A.C_People dx (putF (Str.ofString "_held") (.ref D) [])) p = some (.ins A.C_People dx [("_held", .ref D)]) := upd_same
        have k8 : Keep [p] H (upd H' p (.ins A.C_People dx (putF (Str.ofString "_held") (.ref D) []))) := fun b o hb nb => by
          rw [upd_ne (by simpa using nb)]
          exact k7 _ _ hb (by simp)
        generalize upd H' p (.ins A.C_People dx (putF (Str.ofString "_held") (.ref D) [])) = H5 at dm2 hd2 hp2 k8 ⊢
        clear dm' hd' k7 k6 hD h2l k5
        refine ⟨D, _, hd2, trivial, fun od => ?_⟩
        refine ⟨_, rfl, p, _, dx, _, _, rfl, (by rw [upd_ne np]; exact hp2), T.cl_People, T.na_People__held, rfl, D, od, rfl, .inl ⟨ks', upd_same, fun S hS => ?_⟩⟩
        have nSD : S ≠ D := fun e => by rw [e, upd_same] at hS; cases hS
        have nSp : p ≠ S := fun e => by rw [← e, upd_ne np, hp2] at hS; cases hS
        refine ⟨_, ⟨_, rfl, Nat.zero_le _, ?h0⟩, round_it walk_keys (fun i H' => H' = upd (upd H5 D (.frz od (.dK ks'))) S (SetS P w S (once [] (flatM ((sm m).take i))))) (fun i H' _ e => ?hG) (fun i x H6 H7 hi e y => ?hs) (fun H6 e => ?hd)⟩
        case h0 => rfl
        case hG =>
          subst e
          rw [upd_ne (Ne.symm nSD), upd_same]
        case hs =>
          subst e
          obtain ⟨rfl, k, v, hkv, rfl⟩ := y
          obtain ⟨e, he, rfl, q', rfl, h2⟩ := dm2.get hkv
          have hem := List.mem_of_getElem? he
          obtain ⟨v', hv, q', rfl, h2⟩ := dm2.val (List.mem_map_of_mem hem)
          rw [mget_mem gM.nd hem] at h2
          have nq : q' ≠ D := ne_of h2 hd2 (fun z => by cases z)
          have nqS : q' ≠ S := fun e => by rw [← e, upd_ne nq, h2] at hS; cases hS
          refine ⟨rfl, ?_⟩
          refine ⟨_, rfl, p, _, dx, _, _, rfl, (by rw [upd_ne nSp, upd_ne np]; exact hp2), T.cl_People, T.na_People__held, rfl, _, rfl, ?_⟩
          refine ⟨D, _, rfl, .inl ⟨ks', Sum.inr e.1, .inr ⟨od, by rw [upd_ne (Ne.symm nSD), upd_same]⟩, rfl, hv.symm⟩, ?_⟩
          have hq : ∀ o, SqT K (upd (upd H5 D (.frz od (.dK ks'))) S o) q' (e.2.map V.str) := fun o => .inl (.inl (by rw [upd_ne nqS, upd_ne nq]; exact h2))
          refine ⟨q', rfl, ⟨_, hq _⟩, ?_⟩
          refine ⟨_, ⟨_, rfl, Nat.zero_le _, ?h1⟩, round_it (walk_tup (xs := e.2.map V.str)) (fun j H' => H' = upd (upd H5 D (.frz od (.dK ks'))) S (SetS P w S (once [] (flatM ((sm m).take i) ++ e.2.take j)))) (fun j H' _ e => ?hG1) (fun j x H6 H7 hj e y => ?hs1) (fun H6 e => ?hd1)⟩
          case h1 =>
            show _ = upd _ S (SetS P w S (once [] (_ ++ [])))
            rw [List.append_nil]
          case hG1 =>
            subst e
            exact hq _
          case hs1 =>
            subst e
            obtain ⟨rfl, hx⟩ := y
            rw [List.getElem?_map] at hx
            obtain ⟨t, ht, rfl⟩ := Option.map_eq_some_iff.mp hx
            refine ⟨rfl, _, rfl, t, _, rfl, upd_same, ?_, ?_⟩
            · have h1 := once_len (flatM ((sm m).take i) ++ e.2.take j) []
              have h2 := flat_take_len gM i
              have h3 := (gM.gs e hem).2.2.2
              rw [List.length_append, List.length_take] at h1
              simp only [List.length_nil] at h1
              refine Nat.lt_of_le_of_lt (show _ ≤ 100 by omega) (by decide)
            · rw [upd_again, ← once_app, List.append_assoc, List.take_add_one, ht]
              rfl
          case hd1 =>
            subst e
            rw [List.length_map, List.take_length, ← flat_take he]
        case hd =>
          subst e
          refine ⟨by rw [upd_ne (Ne.symm nSD), upd_same], ?_⟩
          have lks : ks'.length = (sm m).length := dm2.len
          rw [lks, List.take_length]
          have k9 : Keep [] H5 (upd (upd (upd H5 D (.frz od (.dK ks'))) S (SetS P w S (once [] (flatM (sm m))))) D (.dK ks')) := keep_lock hd2 (keep_new hS)
          have hS9 : (upd (upd (upd H5 D (.frz od (.dK ks'))) S (SetS P w S (once [] (flatM (sm m))))) D (.dK ks')) S = some (SetS P w S (once [] (flatM (sm m)))) := by rw [upd_ne nSD, upd_same]
          generalize upd (upd (upd H5 D (.frz od (.dK ks'))) S (SetS P w S (once [] (flatM (sm m))))) D (.dK ks') = H9 at k9 hS9 ⊢
          have few := once_few gM
          refine ⟨S, _, rfl, hS9, by omega, fun gs G pg sg nG => ?_⟩
          have egs : gs = gsOf m := by rw [srt_eq pg sg]; exact gs_perm pM
          have gmem : ∀ x, x ∈ gs ↔ ∃ e ∈ sm m, x ∈ e.2 := fun x => by rw [pg.mem_iff, once_mem, mem_flatM]; simp
          have gl : gs.length ≤ 6 := by rw [pg.length_eq]; exact few
          have hp9 := k9 _ _ hp2 (by simp)
          have hd9 := k9 _ _ hd2 (by simp)
          have nGp : p ≠ G := fun e => by rw [← e, hp9] at nG; cases nG
          have nGD : D ≠ G := fun e => by rw [← e, hd9] at nG; cases nG
          refine ⟨_, rfl, p, _, dx, _, rfl, (by rw [upd_ne nGp]; exact hp9), T.cl_People, T.na_People__groups, (by show 1 < 1000; decide), ?_⟩
          have hp10 : (upd (upd H9 G (.lst (gs.map V.str))) p (.ins A.C_People dx (putF (Str.ofString "_groups") (.ref G) [("_held", .ref D)]))) p = some (.ins A.C_People dx [("_held", .ref D), ("_groups", .ref G)]) := upd_same
          have hG10 : (upd (upd H9 G (.lst (gs.map V.str))) p (.ins A.C_People dx (putF (Str.ofString "_groups") (.ref G) [("_held", .ref D)]))) G = some (.lst (gs.map V.str)) := by rw [upd_ne (Ne.symm nGp), upd_same]
          have hD10 : (upd (upd H9 G (.lst (gs.map V.str))) p (.ins A.C_People dx (putF (Str.ofString "_groups") (.ref G) [("_held", .ref D)]))) D = some (.dK ks') := by rw [upd_ne (Ne.symm np), upd_ne nGD]; exact hd9
          have dm10 : DM (RT (upd (upd H9 G (.lst (gs.map V.str))) p (.ins A.C_People dx (putF (Str.ofString "_groups") (.ref G) [("_held", .ref D)])))) ks' (sm m) :=
            dm2.imp fun _ _ r => ((r.keep k9).keep (keep_new nG)).put (by rw [upd_ne nGp]; exact hp9) (fun _ z => by cases z)
          have k10 : Keep [p] H (upd (upd H9 G (.lst (gs.map V.str))) p (.ins A.C_People dx (putF (Str.ofString "_groups") (.ref G) [("_held", .ref D)]))) := fun b o hb nb => by
            rw [upd_ne (by simpa using nb)]
            exact (k9.trans (keep_new nG)) _ _ (k8 _ _ hb nb) (by simp)
          generalize upd (upd H9 G (.lst (gs.map V.str))) p (.ins A.C_People dx (putF (Str.ofString "_groups") (.ref G) [("_held", .ref D)])) = H10 at hp10 hG10 hD10 dm10 k10 ⊢
          have fD : H D = none := by
            cases e : H D with
            | none => rfl
            | some o =>
              have := kD0 _ _ e (by simp)
              rw [hD0] at this
              cases this
          have fG : H G = none := by
            cases e : H G with
            | none => rfl
            | some o =>
              have := k9 _ _ (k8 _ _ e (by simpa using Ne.symm nGp)) (by simp)
              rw [nG] at this
              cases this
          have fin := q H10 D G dx ks' k10 pM (by rw [← egs]; exact ⟨hp10, hD10, dm10, hG10, gM, gmem, gl⟩) fD fG
          refine ⟨_, rfl, p, _, dx, _, _, rfl, hp10, T.cl_People, T.na_People__groups, rfl, ?_⟩
          refine ⟨G, _, rfl, .inl (.inl (Rd.of hG10)), ?_⟩
          refine ⟨_, _, rfl, rfl, _, rfl, ?_⟩
          refine ifF (decide_eq_false (by rw [List.length_map]; omega)) ?_
          exact fin
end
end K23
namespace K23
open PySem PySem.Spec PyProof.Rows L2 FR TL
open C8 (pss_cut pe_gc)
abbrev Es := List (Addr × Str × List Str)
def dEs (es : Es) : List (L2.Key × V) := es.map fun e => (Sum.inr e.2.1, .ref e.1)
def mEs (es : Es) : Mp := es.map (·.2)
structure ML (H : Hp) (a : Addr) (es : Es) : Prop where
  hd : H a = some (.dK (dEs es))
  hl : ∀ e ∈ es, H e.1 = some (.lst (e.2.2.map V.str))
theorem ML.keep {H H' : Hp} {a : Addr} {es : Es} (h : ML H a es) (k : Keep [] H H') : ML H' a es := ⟨k _ _ h.hd (by simp), fun e he => k _ _ (h.hl e he) (by simp)⟩
theorem dm_es {R : V → List Str → Prop} : ∀ {es : Es}, (∀ e ∈ es, R (.ref e.1) e.2.2) → DM R (dEs es) (mEs es)
  | [], _ => .nil
  | e :: r, h => .cons ⟨rfl, h e List.mem_cons_self⟩ (dm_es fun x hx => h x (List.mem_cons_of_mem _ hx))
theorem ML.dm {H : Hp} {a : Addr} {es : Es} (h : ML H a es) : DM (RL H) (dEs es) (mEs es) := dm_es fun e he => ⟨e.1, rfl, h.hl e he⟩
def psEs (es : Es) : List (Addr × List V) := es.map fun e => (e.1, e.2.2.map V.str)
theorem dEs_len (es : Es) : (dEs es).length = es.length := List.length_map _
theorem mEs_len (es : Es) : (mEs es).length = es.length := List.length_map _
def usB (s : Str) : Bool := decide (1 ≤ s.length) && decide (s.length ≤ 8) && (tl s).all lc && decide (s ≠ Str.ofString "root")
theorem us_of {s : Str} (h : usB s = true) : Us s := by
  unfold usB at h
  simp only [Bool.and_eq_true, decide_eq_true_eq, List.all_eq_true] at h
  exact ⟨⟨h.1.1.1, h.1.1.2, h.1.2⟩, h.2⟩
def lets : Str := Str.ofString "abcdefghijklmnopqrstuvwxyz"
theorem lets_lc {c : Nat} (h : c ∈ lets.cps.toList) : lc c = true := List.all_eq_true.mp (show lets.cps.toList.all lc = true by decide +kernel) c h
theorem first_us : ∀ k : Fin 6, usB ((⟨#[97]⟩ : Str) ++ cutS (Str.ofString "bcdefgh") none (some (k.1 : Int))) = true := by decide +kernel
theorem tl_cutFrom (s : Str) (k : Nat) : tl (cutS s (some (k : Int)) none) = (tl s).drop k := by
  rw [tl_cutS]
  show ((tl s).drop (HT.sIx s.length 0 (some (k : Int)))).take (s.length - HT.sIx s.length 0 (some (k : Int))) = _
  rw [HT.sIx_nat, len_tl]
  by_cases h : k ≤ (tl s).length
  · rw [Nat.min_eq_left h, List.take_of_length_le (by rw [List.length_drop]; exact Nat.le_refl _)]
  · rw [Nat.min_eq_right (by omega), Nat.sub_self, List.take_zero, List.drop_of_length_le (by omega)]
section
variable {P : Program} {w : World} {K : PySem.W.Frag} {mg : Str → Option Value} {base : Heap} {A : Ads}
set_option pp.maxSteps 120
theorem ok_all_groups (T : Txt K mg A) : FnOk P w K mg base CX0 1 A.f_all_groups A.d_all_groups ["_law_members_one"] (fun vs H Q _ => ∃ a es, vs = [.ref a] ∧ ML H a es ∧ Mk (mEs es) ∧ NewO (.lst ((gsOf (mEs es)).map V.str)) Q H) := by
  refine T.F_all_groups.ok sc_all_groups (fun vs H Q E h => ?_) (fun cdv A_ outer s_ H vs Q E hr h => ?_)
  · obtain ⟨a, es, rfl, _⟩ := h
    rfl
  · obtain ⟨a, es, rfl, h, gd, q⟩ := h
    refine ⟨_, (pss_one (ps_ret (pe_callB (cr_sortSet rfl) (by rfl) T.b_sorted (by decide +kernel) (pa_cons (pe_callTy (cr_setS rfl) (by rfl) T.b_set (by decide +kernel) (pa_cons (pe_callBK (cr_sumL rfl) (by rfl) T.b_sum (by decide +kernel) (pa_cons (pe_callTy (call_lVals rfl) (by rfl) T.b_list (by decide +kernel) (pa_cons (pe_bm0 PySem.F.plainAttrs_dict PySem.F.slot_dict_values PySem.F.type_dict_values mt_valuesK (pv 0)) pa_nil)) pa_nil) (pk_cons (pe_lstS pa_nil) pk_nil)) pa_nil)) pa_nil)))), ?_⟩
    refine ⟨_, rfl, ?_⟩
    refine ⟨.inr (.inr (.inl ⟨rfl, .inl ⟨_, h.hd⟩⟩)), a, _, rfl, rfl, h.hd, fun p1 n1 => ?_⟩
    have hd1 : upd H p1 (valuesO p1 a) a = some (.dK (dEs es)) := by
      rw [upd_ne (ne_of_none h.hd n1)]
      exact h.hd
    refine ⟨p1, a, _, rfl, upd_same, hd1, NewO.mk fun p2 H2 n2 k2 h2 => ?_⟩
    have k3 : Keep [] H H2 := (keep_new n1).trans k2
    clear k2 hd1
    refine ⟨Nat.zero_le _, NewS.mk fun p4 H4 n4 s4 k4 h4 => ?_⟩
    have k5 := k3.trans k4
    have hS : SqL K H4 p2 ((psEs es).map fun p => V.ref p.1) := by
      have := k4 _ _ h2 (by simp)
      refine .inl (.inl ?_)
      rw [this]
      unfold dEs psEs
      rw [List.map_map, List.map_map]
      rfl
    have hsum : ((psEs es).map (fun p => p.2.length)).sum = (flatM (mEs es)).length := by
      unfold flatM mEs psEs
      rw [List.length_flatten, List.map_map, List.map_map, List.map_map]
      congr 1
      exact List.map_congr_left fun e _ => List.length_map _
    have hfl : ((psEs es).map (·.2)).flatten = (flatM (mEs es)).map V.str := by
      unfold flatM mEs psEs
      rw [List.map_map, List.map_map, List.map_flatten, List.map_map]
      rfl
    have fl := flat_len gd
    refine ⟨p2, p4, psEs es, rfl, rfl, hS, h4, fun p hp => ?_, fun e => ?_, by rw [hsum]; omega, fun p6 n6 => ?_⟩
    · obtain ⟨e, he, rfl⟩ := List.mem_map.mp hp
      exact k5 _ _ (h.hl e he) (by simp)
    · have := gd.l1
      unfold psEs at e
      rw [List.map_eq_nil_iff] at e
      rw [e] at this
      simp [mEs] at this
    rw [hfl]
    refine ⟨.ref p6, flatM (mEs es), rfl, ⟨p6, rfl, .inl (.inl (.inl upd_same))⟩, by omega, fun p7 n7 => ?_⟩
    have few := once_few gd
    refine ⟨p7, _, rfl, upd_same, by omega, fun ys p8 py sy n8 => ?_⟩
    obtain rfl : ys = gsOf (mEs es) := srt_eq py sy
    refine q.to p8 _ ?_ (((k5.trans (keep_new n6)).trans (keep_new n7)).trans (keep_new n8)) upd_same
    exact ((k5.trans (keep_new n6)).trans (keep_new n7)).free n8
def spNames : Sp := fun vs H Q _ => ∃ (b : Addr) (many n : Nat) (x y z : Int), vs = [.ref b, .int many] ∧ H b = some (bagO x y z) ∧ BagOk n x y z ∧ n < 900000 ∧ 1 ≤ many ∧ many ≤ 6 ∧
  ∀ (ns : List Str) (p : Addr) (x' y' z' : Int) (H' : Hp), Uss ns → ns.length = many → BagOk (n + 20) x' y' z' → Keep [b] H H' → H' b = some (bagO x' y' z') → H p = none → H' p = some (.lst (ns.map V.str)) → Q (.ref p) H'
theorem ok_names (T : Txt K mg A) : FnOk P w K mg base CX0 2 A.f_names A.d_names ["_law_bag_here", "_law_many"] spNames := by
  refine T.F_names.ok sc_names (fun vs H Q E h => ?_) (fun cdv A_ outer s_ H vs Q E hr h => ?_)
  · obtain ⟨b, many, n, x, y, z, rfl, _⟩ := h
    rfl
  · obtain ⟨b, many, n, x, y, z, rfl, hb, ok, hn, m0, m1, q⟩ := h
    have W := Ow.start1 hb
    have hsz : lets.length ≤ sizeLine := size_le (by decide +kernel)
    have hsl : lets.length = 26 := by decide +kernel
    refine ⟨_, (pss_cons (ps_set (i := 2) sc_names.nd rfl (.inr rfl) pe_str)
  (pss_cons (ps_if (pt_cmpR op_eq (pe_call (ok_take T) (hr.mono (by decide)) (by rfl) T.g_take T.F_take.kp T.B_take .nil pass0 (pa_cons (pv 0) (pa_cons pe_int pa_nil))) pe_int (nomark _)) (pss_one (ps_ret (pe_stepL (pe_lc (own := [("_law_k", 8)]) (g := gName 8) rfl sc_names.nd (pi_range1 (by rfl) T.b_range (pa_cons (pv 1) pa_nil)) (blkOk_by (own := [("_law_k", 8)]) (N := N_names) (sc := defScope s_names) (by decide +kernel)) (fun _ _ _ _ _ => pg_name (i := 8) sc_names.nd rfl (Or.inl rfl)) (fun _ _ _ _ _ => pts_nil) (fun _ _ _ _ _ => (pe_op op_add_str (pe_ix ix_str (pv 2) (pe_call (ok_take T) (hr.mono (by decide)) (by rfl) T.g_take T.F_take.kp T.B_take .nil pass0 (pa_cons (pv 0) (pa_cons pe_int pa_nil))) (fun _ _ => rfl)) (pe_slice sl_str pe_str po_none (po_some (pv 8)))))) (po_some (pe_ix ix_list (pe_lstS (pa_cons pe_int (pa_cons (pe_un un_neg pe_int) pa_nil))) (pe_call (ok_take T) (hr.mono (by decide)) (by rfl) T.g_take T.F_take.kp T.B_take .nil pass0 (pa_cons (pv 0) (pa_cons pe_int pa_nil))) (fun _ _ => rfl)))))) pss_nil)
  (pss_cons (ps_set (i := 3) sc_names.nd rfl (.inr rfl) (pe_join pe_str (pe_lc (own := [("_law_k", 8)]) (g := gName 8) rfl sc_names.nd (pi_range1 (by rfl) T.b_range (pa_cons (pe_call (ok_take T) (hr.mono (by decide)) (by rfl) T.g_take T.F_take.kp T.B_take .nil pass0 (pa_cons (pv 0) (pa_cons pe_int pa_nil))) pa_nil)) (blkOk_by (own := [("_law_k", 8)]) (N := N_names) (sc := defScope s_names) (by decide +kernel)) (fun _ _ _ _ _ => pg_name (i := 8) sc_names.nd rfl (Or.inl rfl)) (fun _ _ _ _ _ => pts_nil) (fun _ _ _ _ _ => (pe_ix ix_str (pv 2) (pe_call (ok_take T) (hr.mono (by decide)) (by rfl) T.g_take T.F_take.kp T.B_take .nil pass0 (pa_cons (pv 0) (pa_cons pe_int pa_nil))) (fun _ _ => rfl))))))
  (pss_cons (ps_asg (pe_tupN (pa_cons (pe_call (ok_take T) (hr.mono (by decide)) (by rfl) T.g_take T.F_take.kp T.B_take .nil pass0 (pa_cons (pv 0) (pa_cons (pe_op op_add (pe_callB call_len_str (by rfl) T.b_len PySem.boot_len (pa_cons (pv 3) pa_nil)) pe_int) pa_nil))) (pa_cons (pe_call (ok_take T) (hr.mono (by decide)) (by rfl) T.g_take T.F_take.kp T.B_take .nil pass0 (pa_cons (pv 0) (pa_cons pe_int pa_nil))) pa_nil))) (pg_tup rfl (pgs_cons (pg_name (i := 4) sc_names.nd rfl (.inr rfl)) (pgs_cons (pg_name (i := 5) sc_names.nd rfl (.inr rfl)) pgs_nil))))
  (pss_cons (ps_set (i := 6) sc_names.nd rfl (.inr rfl) (pe_ix ix_list (pe_lstS (pa_cons pe_int (pa_cons pe_int (pa_cons pe_int (pa_cons pe_int (pa_cons pe_int (pa_cons pe_int pa_nil))))))) (pe_call (ok_take T) (hr.mono (by decide)) (by rfl) T.g_take T.F_take.kp T.B_take .nil pass0 (pa_cons (pv 0) (pa_cons pe_int pa_nil))) (fun _ _ => rfl)))
  (pss_cons (ps_setLc (i := 7) (own := [("_law_k", 8)]) (g := gName 8) rfl sc_names.nd rfl rfl (sw_true rfl rfl rfl (by decide +kernel)) (pi_range1 (by rfl) T.b_range (pa_cons (pv 1) pa_nil)) (blkOk_by (own := [("_law_k", 8)]) (N := N_names) (sc := defScope s_names) (by decide +kernel)) (fun _ _ _ _ _ => pg_name (i := 8) sc_names.nd rfl (Or.inl rfl)) (fun _ _ _ _ _ => pts_nil) (fun _ _ _ _ _ => (pe_op op_add_str (pe_op op_add_str (pe_slice sl_str (pv 3) po_none (po_some (pv 4))) (pe_ix ix_str (pv 2) (pe_op op_mod (pe_op op_add (pv 5) (pe_op op_mul (pv 6) (pv 8))) pe_int) (fun _ _ => rfl))) (pe_slice sl_str (pv 3) (po_some (pv 4)) po_none))))
  (pss_one (ps_ret (pe_lc (own := [("_law_name", 9)]) (g := gName 9) rfl sc_names.nd (pi_list (pv 7)) (blkOk_by (own := [("_law_name", 9)]) (N := N_names) (sc := defScope s_names) (by decide +kernel)) (fun _ _ _ _ _ => pg_name (i := 9) sc_names.nd rfl (Or.inl rfl)) (fun _ _ _ _ _ => pts_nil) (fun _ _ _ _ _ => (pe_ix (ix_listK (K := K) rfl) (pe_lstS (pa_cons (pv 9) (pa_cons pe_str pa_nil))) (pe_callTy call_int1 (by rfl) T.b_int (by decide +kernel) (pa_cons (pe_cmpR op_eq (pv 9) pe_str (nomark _)) pa_nil)) (fun _ _ => rfl)))))))))))), ?_⟩
    walk_at "rd"
    walk_at "take"
    rename_i d2 x2 y2 z2 H2 d20 d21 ok2 kp2 hb2 W2
    walk_at "rd"
    refine ifVI (fun c => ?_) (fun c => ?_)
    · refine ⟨_, rfl, _, rfl, by omega, by omega, ?_⟩
      intro D hD
      refine lc_rg (fun i H' => ∃ (l : List Str) (x y z : Int), l.length = i ∧ Uss l ∧ BagOk (n + 1 + i) x y z ∧ Ow H [b] H' [(D, .lst (l.map V.str)), (b, bagO x y z)]) ?_ ?_ ?_
      · exact ⟨[], _, _, _, rfl, fun _ h => by simp at h, ok2, W2.new hD⟩
      · rintro i H5 hi ⟨l, x5, y5, z5, hl, hl2, ok5, W5⟩
        have hi1 : i < many := hi
        have hi' : i < 6 := by omega
        walk_at "rd"
        walk_at "take"
        rename_i d6 x6 y6 z6 H6 d60 d61 ok6 kp6 hb6 W6
        have d0 : d6 = 0 := by omega
        subst d0
        refine ⟨_, _, _, rfl, rfl, hsz, (show _ = some 97 by decide +kernel), ?_⟩
        walk_at "rd"
        have ul := first_us ⟨i, hi'⟩
        have c7 := cutS_len (Str.ofString "bcdefgh") none (some (0 + (i : Int)))
        rw [show (Str.ofString "bcdefgh").length = 7 by decide +kernel] at c7
        refine ⟨size_le (by show 1 + _ ≤ _; omega), ?_⟩
        rw [show ((0 : Int) + (i : Int)) = (i : Int) by omega]
        generalize (⟨#[97]⟩ : Str) ++ cutS (Str.ofString "bcdefgh") none (some (i : Int)) = t at ul ⊢
        refine ⟨_, W6.get 0 rfl, size_ok (by rw [List.length_map]; omega), l ++ [t], x6, y6, z6, by rw [List.length_append, hl]; rfl, fun s hs => ?_, ok6.mono (by omega), ?_⟩
        · rcases List.mem_append.mp hs with h | h
          · exact hl2 s h
          · rw [List.mem_singleton.mp h]; exact us_of ul
        · rw [List.map_append]
          exact W6.set 0 rfl
      · rintro H7 ⟨l, x7, y7, z7, hl, hl2, ok7, W7⟩
        have hl : l.length = many := hl
        refine ⟨D, _, rfl, W7.sq 0 rfl, ?_⟩
        walk_at "rd"
        rename_i p8 H8 np8 sp8 kp8 hp8 W8
        walk_at "take"
        rename_i d9 x9 y9 z9 H9 d90 d91 ok9 kp9 hb9 W9
        obtain ⟨v, hv, hm⟩ := atI_in (xs := [V.int 1, V.int (-1)]) d90 d91
        refine ⟨_, _, _, v, rfl, rfl, W9.sq 0 rfl, hv, ?_⟩
        simp only [List.mem_cons, List.not_mem_nil, or_false] at hm
        have fr : ∀ p9, H9 p9 = none → H p9 = none := fun p9 h9 => by
          by_cases e : p9 = b
          · rw [e, W9.get 2 rfl] at h9
            cases h9
          · cases h0 : H p9 with
            | none => rfl
            | some o =>
              have := W9.keep p9 o h0 (by simpa using e)
              rw [h9] at this
              cases this
        rcases hm with rfl | rfl
        · refine ⟨_, rfl, W9.sq 1 rfl, .inl ⟨rfl, fun p9 h9 => ?_⟩⟩
          have W10 := W9.new (o := .lst (l.map V.str)) h9
          exact q l p9 _ _ _ _ hl2 hl (ok9.mono (by omega)) W10.keep (W10.get 3 rfl) (fr p9 h9) upd_same
        · refine ⟨_, rfl, W9.sq 1 rfl, .inr ⟨rfl, fun p9 h9 => ?_⟩⟩
          have W10 := W9.new (o := .lst (l.map V.str).reverse) h9
          refine q l.reverse p9 _ _ _ _ (fun s hs => hl2 s (List.mem_reverse.mp hs)) (by rw [List.length_reverse, hl]) (ok9.mono (by omega)) W10.keep (W10.get 3 rfl) (fr p9 h9) ?_
          rw [upd_same, List.map_reverse]
    · walk_at "rd"
      walk_at "take"
      rename_i d3 x3 y3 z3 H3 d30 d31 ok3 kp3 hb3 W3
      obtain ⟨jj, rfl⟩ := Int.eq_ofNat_of_zero_le d30
      refine ⟨_, rfl, by omega, by omega, ?_⟩
      intro D hD
      refine lc_rg (fun i H' => ∃ (l : List Nat) (x y z : Int), l.length = i ∧ (∀ c ∈ l, lc c = true) ∧ BagOk (n + 2 + i) x y z ∧ Ow H [b] H' [(D, .lst ((sg l).map V.str)), (b, bagO x y z)]) ?_ ?_ ?_
      · exact ⟨[], _, _, _, rfl, by simp, ok3, W3.new hD⟩
      · rintro i H5 hi ⟨l, x5, y5, z5, hl, hl2, ok5, W5⟩
        have hi1 : i < jj := hi
        have hi' : i < 8 := by omega
        walk_at "rd"
        walk_at "take"
        rename_i d6 x6 y6 z6 H6 d60 d61 ok6 kp6 hb6 W6
        obtain ⟨e, he, hm⟩ := atI_in (xs := lets.cps.toList) d60 (by rw [show (lets.cps.toList.length : Int) = (lets.length : Int) by rw [len_tl]]; exact d61)
        have he' := lets_lc hm
        refine ⟨_, _, _, rfl, rfl, hsz, he, ?_⟩
        refine ⟨_, W6.get 0 rfl, size_ok (by rw [List.length_map, sg_len]; omega), l ++ [e], x6, y6, z6, by rw [List.length_append, hl]; rfl, ?_, ok6.mono (by omega), ?_⟩
        · intro d hd
          rcases List.mem_append.mp hd with h | h
          · exact hl2 d h
          · rw [List.mem_singleton.mp h]; exact he'
        · rw [sg_app]
          exact W6.set 0 rfl
      · rintro H7 ⟨l, x7, y7, z7, hl, hl2, ok7, W7⟩
        have hl7 : l.length = jj := hl
        walk_at "rd"
        refine ⟨_, _, sg l, rfl, rfl, .inl (W7.sq 0 rfl), by rw [sum_one sg_one, sg_len, show (Str.ofString "").length = 0 by decide +kernel]; omega, ?_⟩
        have hs : (Txt.join (Str.ofString "") (sg l)).length = jj := by rw [len_tl, tl_joined_sg, hl7]
        have ha : ∀ c ∈ tl (Txt.join (Str.ofString "") (sg l)), lc c = true := by rw [tl_joined_sg]; exact hl2
        generalize Txt.join (Str.ofString "") (sg l) = st at hs ha
        have W8 : Ow H [b] H7 [(b, bagO x7 y7 z7)] := W7.tail
        have ok8 : BagOk (n + 10) x7 y7 z7 := ok7.mono (by rw [show (jj : Int).toNat = jj by omega] at *; omega)
        clear W7 ok7
        walk_at "rd"
        walk_at "take"
        rename_i d9 x9 y9 z9 H9 d90 d91 ok9 kp9 hb9 W9
        walk_at "rd"
        walk_at "take"
        rename_i d10 x10 y10 z10 H10 d100 d101 ok10 kp10 hb10 W10
        walk_at "rd"
        rename_i p11 H11 np11 kp11 hp11 W11
        refine ⟨p11, _, rfl, W11.sqT 0 rfl, rfl, ?_⟩
        have W12 := W11.tail
        clear W11
        obtain ⟨at_, rfl⟩ := Int.eq_ofNat_of_zero_le d90
        obtain ⟨fi, rfl⟩ := Int.eq_ofNat_of_zero_le d100
        walk_at "rd"
        rename_i p13 H13 np13 sp13 kp13 hp13 W13
        walk_at "take"
        rename_i d14 x14 y14 z14 H14 d140 d141 ok14 kp14 hb14 W14
        obtain ⟨v, hv, hm⟩ := atI_in (xs := [V.int 1, V.int 3, V.int 5, V.int 7, V.int 9, V.int 11]) d140 d141
        obtain ⟨st2, rfl, t0, t1⟩ : ∃ j : Nat, v = .int j ∧ 0 ≤ j ∧ j ≤ 11 := by
          simp at hm
          rcases hm with rfl | rfl | rfl | rfl | rfl | rfl
          · exact ⟨1, rfl, by omega, by omega⟩
          · exact ⟨3, rfl, by omega, by omega⟩
          · exact ⟨5, rfl, by omega, by omega⟩
          · exact ⟨7, rfl, by omega, by omega⟩
          · exact ⟨9, rfl, by omega, by omega⟩
          · exact ⟨11, rfl, by omega, by omega⟩
        refine ⟨_, _, _, _, rfl, rfl, W14.sq 0 rfl, hv, ?_⟩
        have W15 := W14.tail
        clear W14 W13 W12 W10 W9 W8
        refine ⟨_, rfl, _, rfl, by omega, by omega, ?_⟩
        intro D2 hD2
        refine lc_rg (fun i H' => ∃ (l : List Str), l.length = i ∧ (∀ s ∈ l, Nm s) ∧ Ow H [b] H' [(D2, .lst (l.map V.str)), (b, bagO x14 y14 z14)]) ?_ ?_ ?_
        · exact ⟨[], rfl, by simp, W15.new hD2⟩
        · rintro i H5 hi ⟨l, hl, hl2, W5⟩
          have hi1 : i < many := hi
          walk_at "rd1"
          walk_at "rd1"
          walk_at "rd1"
          refine ⟨_, rfl, _, rfl, size_le (by omega), ?_⟩
          refine ⟨_, rfl, _, rfl, _, rfl, _, rfl, _, _, rfl, rfl, .inl ⟨by omega, by omega⟩, _, _, rfl, rfl, _, _, rfl, rfl, (show (0 : Int) < 26 by decide), ?_⟩
          have m0 : (0 : Int) ≤ ((fi : Int) + (st2 : Int) * (0 + (i : Int))) % 26 := Int.emod_nonneg _ (by decide)
          have m1 : ((fi : Int) + (st2 : Int) * (0 + (i : Int))) % 26 < 26 := Int.emod_lt_of_pos _ (by decide)
          obtain ⟨e, he, hme⟩ := atI_in (xs := lets.cps.toList) m0 (by rw [show (lets.cps.toList.length : Int) = (lets.length : Int) by rw [len_tl], hsl]; exact m1)
          have he' := lets_lc hme
          refine ⟨_, _, e, rfl, rfl, hsz, he, ?_⟩
          have hat : at_ ≤ jj := by omega
          have lc1 : (cutS st none (some (at_ : Int))).length = at_ := by
            rw [len_tl, tl_cutTo, List.length_take, ← len_tl]
            omega
          refine ⟨_, _, rfl, rfl, size_le (by rw [lc1]; show at_ + 1 ≤ _; omega), ?_⟩
          have lc2 : (cutS st (some (at_ : Int)) none).length = jj - at_ := by
            rw [len_tl, tl_cutFrom, List.length_drop, ← len_tl, hs]
          have lc3 : (cutS st none (some (at_ : Int)) ++ ⟨#[e]⟩).length = at_ + 1 := by rw [len_app, lc1]; rfl
          refine ⟨_, rfl, _, rfl, _, rfl, _, rfl, size_le (by omega), ?_⟩
          refine ⟨_, _, rfl, rfl, size_le (by rw [lc2, lc3]; omega), ?_⟩
          have nm : Nm ((cutS st none (some (at_ : Int)) ++ ⟨#[e]⟩) ++ cutS st (some (at_ : Int)) none) := by
            refine ⟨by rw [len_app, lc2, lc3]; omega, by rw [len_app, lc2, lc3]; omega, fun c hc => ?_⟩
            rw [tl_append, tl_append, tl_cutTo, tl_cutFrom] at hc
            rcases List.mem_append.mp hc with h | h
            · rcases List.mem_append.mp h with h | h
              · exact ha c (List.mem_of_mem_take h)
              · rw [show c = e by simpa using h]; exact he'
            · exact ha c (List.mem_of_mem_drop h)
          generalize (cutS st none (some (at_ : Int)) ++ ⟨#[e]⟩) ++ cutS st (some (at_ : Int)) none = t at nm ⊢
          refine ⟨_, W5.get 0 rfl, size_ok (by rw [List.length_map]; omega), l ++ [t], by rw [List.length_append, hl]; rfl, fun s hs => ?_, ?_⟩
          · rcases List.mem_append.mp hs with h | h
            · exact hl2 s h
            · rw [List.mem_singleton.mp h]; exact nm
          · rw [List.map_append]
            exact W5.set 0 rfl
        · rintro H16 ⟨l2, hl2', hm2, W16⟩
          have hl2' : l2.length = many := hl2'
          walk_at "rd"
          refine ⟨⟨_, W16.sq 0 rfl⟩, fun D3 hD3 => ?_⟩
          refine lc_li (K := K) (a := D2) (xs := l2.map V.str) (fun pre H' => ∃ l3 : List Str, l3.length = pre.length ∧ Uss l3 ∧ Ow H [b] H' [(D3, .lst (l3.map V.str)), (D2, .lst (l2.map V.str)), (b, bagO x14 y14 z14)]) ⟨[], rfl, fun _ h => by simp at h, W16.new hD3⟩ (fun pre post H' _ ⟨_, _, _, W⟩ => W.sq 1 rfl) ?_ ?_
          · rintro pre x post H17 ex ⟨l3, hl3, us3, W17⟩
            obtain ⟨s, hs, rfl⟩ : ∃ s, s ∈ l2 ∧ x = V.str s := by
              have : x ∈ l2.map V.str := by rw [ex]; simp
              obtain ⟨s, h1, h2⟩ := List.mem_map.mp this
              exact ⟨s, h1, h2.symm⟩
            have nm := hm2 s hs
            have lp : pre.length < 6 := by
              have := congrArg List.length ex
              rw [List.length_map, hl2', List.length_append, List.length_cons] at this
              omega
            walk_at "rd"
            rename_i p18 H18 np18 sp18 kp18 hp18 W18
            refine .inr ⟨_, rfl, ?_⟩
            obtain ⟨t, ut, hat⟩ : ∃ t, Us t ∧ atI [V.str s, V.str (Str.ofString "rooter")] (if decide (V.str s = V.str (Str.ofString "root")) = true then 1 else 0) = some (.str t) := by
              by_cases c : s = Str.ofString "root"
              · exact ⟨Str.ofString "rooter", us_of (by decide +kernel), by rw [if_pos (decide_eq_true (by rw [c]))]; rfl⟩
              · exact ⟨s, ⟨nm, c⟩, by rw [if_neg (by rw [decide_eq_true_eq]; exact fun e => c (V.str.inj e))]; rfl⟩
            refine ⟨_, _, _, _, rfl, rfl, W18.sq 0 rfl, hat, ?_⟩
            refine ⟨_, W18.get 1 rfl, size_ok (by rw [List.length_map]; omega), l3 ++ [t], by rw [List.length_append, List.length_append, hl3]; rfl, fun u hu => ?_, ?_⟩
            · rcases List.mem_append.mp hu with h | h
              · exact us3 u h
              · rw [List.mem_singleton.mp h]; exact ut
            · rw [List.map_append]
              exact (W18.set 1 rfl).tail
          · rintro H17 ⟨l3, hl3, us3, W17⟩
            rw [List.length_map, hl2'] at hl3
            exact q l3 D3 _ _ _ _ us3 hl3 (ok14.mono (by omega)) W17.keep (W17.get 2 rfl) (W17.fresh (by simp)) (W17.get 0 rfl)
end
end K23
namespace K23
open PySem PySem.Spec PyProof.Rows L2 FR TL
open C8 (pss_cut pe_gc)
theorem Ow.startL {H : Hp} {L : List (Addr × HO)} (h : ∀ p ∈ L, H p.1 = some p.2) (nd : (L.map (·.1)).Nodup) : Ow H (L.map (·.1)) H L :=
  ⟨fun _ _ h _ => h, h, nd, fun p hp => .inr (List.mem_map_of_mem hp)⟩
theorem erase_map (f : Str → V) (l : List Str) (i : Nat) : (l.map f).eraseIdx i = (l.eraseIdx i).map f := by
  rw [List.eraseIdx_eq_take_drop_succ, List.eraseIdx_eq_take_drop_succ, List.map_append, List.map_take, List.map_drop]
theorem erase_perm {l : List Str} {i : Nat} (h : i < l.length) : (l[i] :: l.eraseIdx i).Perm l := by
  rw [List.eraseIdx_eq_take_drop_succ]
  refine List.perm_middle.symm.trans ?_
  rw [← List.drop_eq_getElem_cons h, List.take_append_drop]
def putE (es : Es) (q : Addr) (u : Str) (xs : List Str) : Es :=
  if (es.any fun e => decide (e.2.1 = u)) = true then es.map (fun e => if e.2.1 = u then (q, u, xs) else e) else es ++ [(q, u, xs)]
theorem putE_d (es : Es) (q : Addr) (u : Str) (xs : List Str) : putK (dEs es) (Sum.inr u) (.ref q) = dEs (putE es q u xs) := by
  have any : ((dEs es).any fun kv => decide (kv.1 = Sum.inr u)) = es.any fun e => decide (e.2.1 = u) := by
    unfold dEs
    rw [List.any_map]
    congr 1
    funext e
    by_cases c : e.2.1 = u
    · simp [c]
    · simp [c]
  unfold putK putE
  rw [any]
  split
  · unfold dEs
    rw [List.map_map, List.map_map]
    refine List.map_congr_left fun e _ => ?_
    by_cases c : e.2.1 = u
    · simp [c]
    · simp [c]
  · unfold dEs
    rw [List.map_append]
    rfl
theorem putE_mem {es : Es} {q : Addr} {u : Str} {xs : List Str} {e : Addr × Str × List Str} (h : e ∈ putE es q u xs) : e ∈ es ∨ e = (q, u, xs) := by
  unfold putE at h
  split at h
  · obtain ⟨e', h1, rfl⟩ := List.mem_map.mp h
    split
    · exact .inr rfl
    · exact .inl h1
  · rcases List.mem_append.mp h with h | h
    · exact .inl h
    · exact .inr (List.mem_singleton.mp h)
theorem putE_keys {es : Es} {q : Addr} {u : Str} {xs : List Str} (nd : (es.map (·.2.1)).Nodup) : ((putE es q u xs).map (·.2.1)).Nodup := by
  unfold putE
  split
  · rw [List.map_map]
    rw [show es.map ((fun x => x.2.1) ∘ fun e => if e.2.1 = u then (q, u, xs) else e) = es.map (·.2.1) from List.map_congr_left fun e _ => by
      by_cases c : e.2.1 = u
      · simp [c]
      · simp [c]]
    exact nd
  · rename_i c
    rw [List.map_append, List.nodup_append]
    refine ⟨nd, by simp, fun a ha b hb => ?_⟩
    obtain ⟨e, he, rfl⟩ := List.mem_map.mp ha
    obtain rfl : b = u := by simpa using hb
    intro z
    exact c (List.any_eq_true.mpr ⟨e, he, decide_eq_true z⟩)
theorem putE_len {es : Es} {q : Addr} {u : Str} {xs : List Str} : 1 ≤ (putE es q u xs).length ∧ (putE es q u xs).length ≤ es.length + 1 := by
  unfold putE
  split
  · rename_i c
    obtain ⟨e, he, _⟩ := List.any_eq_true.mp c
    rw [List.length_map]
    have := List.length_pos_of_mem he
    omega
  · rw [List.length_append, List.length_singleton]
    omega
structure LM (H0 H : Hp) (b d pu pg : Addr) (us gl : List Str) (es : Es) (x y z : Int) : Prop where
  fd : H0 d = none
  kp : Keep [b] H0 H
  hb : H b = some (bagO x y z)
  hd : H d = some (.dK (dEs es))
  hu : H pu = some (.lst (us.map V.str))
  hg : H pg = some (.lst (gl.map V.str))
  hl : ∀ e ∈ es, H e.1 = some (.lst (e.2.2.map V.str))
  kn : (es.map (·.2.1)).Nodup
  ku : ∀ e ∈ es, Us e.2.1
  kg : ∀ e ∈ es, (∀ g ∈ e.2.2, g ∈ gl) ∧ e.2.2.Nodup ∧ 1 ≤ e.2.2.length
theorem bag_ne {x y z : Int} {xs : List Str} : bagO x y z ≠ .lst (xs.map V.str) := fun h => by
  unfold bagO at h
  injection h with h
  cases xs with
  | nil => cases h
  | cons s r =>
    rw [List.map_cons] at h
    injection h with h _
    cases h
section
variable {P : Program} {w : World} {K : PySem.W.Frag} {mg : Str → Option Value} {base : Heap} {A : Ads}
set_option pp.maxSteps 120
def spMembers : Sp := fun vs H Q _ => ∃ (b : Addr) (n : Nat) (x y z : Int), vs = [.ref b] ∧ H b = some (bagO x y z) ∧ BagOk n x y z ∧ n < 800000 ∧
  ∀ (es : Es) (a : Addr) (x' y' z' : Int) (H' : Hp), Mk (mEs es) → BagOk (n + 150) x' y' z' → Keep [b] H H' → H' b = some (bagO x' y' z') → ML H' a es → Q (.ref a) H'
theorem ok_members (T : Txt K mg A) : FnOk P w K mg base CX0 3 A.f_members A.d_members ["_law_bag_here"] spMembers := by
  refine T.F_members.ok sc_members (fun vs H Q E h => ?_) (fun cdv A_ outer s_ H vs Q E hr h => ?_)
  · obtain ⟨b, n, x, y, z, rfl, _⟩ := h
    rfl
  · obtain ⟨b, n, x, y, z, rfl, hb, ok, hn, q⟩ := h
    have W := Ow.start1 hb
    refine ⟨_, (pss_cons (ps_set (i := 1) sc_members.nd rfl (.inl rfl) (pe_call (ok_names T) (hr.mono (by decide)) (by rfl) T.g_names T.F_names.kp T.B_names .nil pass0 (pa_cons (pv 0) (pa_cons (pe_op op_add pe_int (pe_call (ok_take T) (hr.mono (by decide)) (by rfl) T.g_take T.F_take.kp T.B_take .nil pass0 (pa_cons (pv 0) (pa_cons pe_int pa_nil)))) pa_nil))))
  (pss_cons (ps_set (i := 2) sc_members.nd rfl (.inl rfl) (pe_lstS pa_nil))
  (pss_cons (ps_for PassesOwn.never rfl (pi_list (pe_op op_catN (pe_op op_rep (pv 1) (pe_callTy call_int1 (by rfl) T.b_int (by decide +kernel) (pa_cons (pe_cmpR op_eq (pe_call (ok_take T) (hr.mono (by decide)) (by rfl) T.g_take T.F_take.kp T.B_take .nil pass0 (pa_cons (pv 0) (pa_cons pe_int pa_nil))) pe_int (nomark _)) pa_nil))) (pe_call (ok_names T) (hr.mono (by decide)) (by rfl) T.g_names T.F_names.kp T.B_names .nil pass0 (pa_cons (pv 0) (pa_cons pe_int pa_nil))))) (pg_name (i := 3) sc_members.nd rfl (.inl rfl)) (pss_one (ps_if (pt_cmpR op_notIn_seq (pv 3) (pv 2) rfl) (pss_one (ps_expr (pe_bm PySem.F.plainAttrs_list PySem.F.slot_list_append PySem.F.type_list_append mt_appN (pv 2) (pa_cons (pv 3) pa_nil)))) pss_nil)))
  (pss_cons (ps_set (i := 2) sc_members.nd rfl (.inl rfl) (pe_slice sl_listN (pv 2) po_none (po_some (pe_op op_add pe_int (pe_call (ok_take T) (hr.mono (by decide)) (by rfl) T.g_take T.F_take.kp T.B_take .nil pass0 (pa_cons (pv 0) (pa_cons pe_int pa_nil)))))))
  (pss_cons (ps_set (i := 4) sc_members.nd rfl (.inl rfl) pe_dnewN)
  (pss_cons (ps_for PassesOwn.never rfl (pi_list (pv 1)) (pg_name (i := 5) sc_members.nd rfl (.inl rfl)) (pss_cons (ps_set (i := 6) sc_members.nd rfl (.inl rfl) (pe_callTy call_lofN (by rfl) T.b_list (by decide +kernel) (pa_cons (pv 2) pa_nil)))
  (pss_cons (ps_set (i := 7) sc_members.nd rfl (.inl rfl) (pe_lstS pa_nil))
  (pss_cons (ps_for PassesOwn.never rfl (pi_range1 (by rfl) T.b_range (pa_cons (pe_op op_add pe_int (pe_call (ok_take T) (hr.mono (by decide)) (by rfl) T.g_take T.F_take.kp T.B_take .nil pass0 (pa_cons (pv 0) (pa_cons (pe_callB call_len_seq (by rfl) T.b_len PySem.boot_len (pa_cons (pv 2) pa_nil)) pa_nil)))) pa_nil)) (pg_name (i := 8) sc_members.nd rfl (.inl rfl)) (pss_one (ps_expr (pe_bm PySem.F.plainAttrs_list PySem.F.slot_list_append PySem.F.type_list_append mt_appN (pv 7) (pa_cons (pe_bm PySem.F.plainAttrs_list PySem.F.slot_list_pop PySem.F.type_list_pop mt_popAt (pv 6) (pa_cons (pe_call (ok_take T) (hr.mono (by decide)) (by rfl) T.g_take T.F_take.kp T.B_take .nil pass0 (pa_cons (pv 0) (pa_cons (pe_callB call_len_seq (by rfl) T.b_len PySem.boot_len (pa_cons (pv 6) pa_nil)) pa_nil))) pa_nil)) pa_nil)))))
  (pss_one (ps_asg (pv 7) (pg_sub (pv 4) (pv 5) (set_dict (hu_of hr)))))))))
  (pss_one (ps_ret (pv 4))))))))), ?_⟩
    walk_at "rd"
    walk_at "take"
    rename_i d2 x2 y2 z2 H2 d20 d21 ok2 kp2 hb2 W2
    obtain ⟨j, rfl⟩ := Int.eq_ofNat_of_zero_le d20
    refine ⟨_, _, rfl, rfl, ?_⟩
    refine ⟨b, 1 + j, _, _, _, _, by rw [show ((1 + j : Nat) : Int) = 1 + (j : Int) by omega]; rfl, W2.get 0 rfl, ok2, by omega, by omega, by omega, fun us pu x3 y3 z3 H3 uus ul ok3 k3 hb3 nu hu => ?_⟩
    have W3 := W2.anyN 0 rfl k3 hb3 nu hu
    walk_at "rd"
    rename_i p4 H4 np4 sp4 kp4 hp4 W4
    walk_at "take"
    rename_i d5 x5 y5 z5 H5 d50 d51 ok5 kp5 hb5 W5
    walk_at "rd"
    refine .inr ⟨_, rfl, ?_⟩
    refine ⟨pu, _, _, rfl, rfl, W5.get 1 rfl, ?_, ?_, ?_, fun pr hr5 => ?_⟩
    · split <;> decide
    · split <;> decide
    · refine size_le ?_
      rw [List.length_map]
      split <;> simp <;> omega
    have W6 := W5.new (o := .lst (List.replicate (Int.toNat (if decide (V.int d5 = V.int 0) = true then 1 else 0)) (us.map V.str)).flatten) hr5
    obtain ⟨rs, ers, urs, lrs⟩ : ∃ rs : List Str, (List.replicate (Int.toNat (if decide (V.int d5 = V.int 0) = true then 1 else 0)) (us.map V.str)).flatten = rs.map V.str ∧ Uss rs ∧ rs.length ≤ 6 := by
      split
      · exact ⟨us, by simp, uus, by omega⟩
      · exact ⟨[], by simp, fun _ h => by simp at h, by simp⟩
    rw [ers] at W6 ⊢
    clear W5 W4 W3 W2 W
    refine ⟨_, rfl, b, 6, n + 22, _, _, _, rfl, W6.get 3 rfl, ok5, by omega, by omega, by omega, fun ns p7 x7 y7 z7 H7 uns nl ok7 k7 hb7 np7 h7 => ?_⟩
    have W7 := W6.anyN 3 rfl k7 hb7 np7 h7
    refine ⟨pr, p7, _, _, rfl, rfl, W7.get 1 rfl, W7.get 0 rfl, size_le (by rw [List.length_map, List.length_map]; omega), NewO.mk fun pc H8 n8 k8 h8 => ?_⟩
    rw [← List.map_append] at h8
    have W8 := (W7.res (W7.call0 k8) n8 h8).sel (L' := [(pc, .lst ((rs ++ ns).map V.str)), (p4, .lst []), (pu, .lst (us.map V.str)), (b, bagO x7 y7 z7)]) (.cons₂ _ (.cons _ (.cons _ (.cons₂ _ (.cons₂ _ (.cons₂ _ .slnil))))))
    clear W7 W6
    have lall : (rs ++ ns).length ≤ 12 := by rw [List.length_append]; omega
    have nall : rs ++ ns ≠ [] := fun e => by
      have := congrArg List.length e
      rw [List.length_append, nl] at this
      simp at this
    have uall : Uss (rs ++ ns) := fun s hs => (List.mem_append.mp hs).elim (urs s) (uns s)
    generalize rs ++ ns = al at h8 W8 lall nall uall
    refine ⟨pc, rfl, ⟨_, W8.sq 0 rfl⟩, ?_⟩
    refine for_li (K := K) (a := pc) (xs := al.map V.str) (fun pre σ H' => ∃ gl y3, σ = [some (.ref b), some (.ref pu), some (.ref p4), y3, none, none, none, none, none] ∧ gl.length ≤ pre.length ∧ gl.Nodup ∧ Uss gl ∧ (pre ≠ [] → gl ≠ []) ∧ Ow H [b] H' [(pc, .lst (al.map V.str)), (p4, .lst (gl.map V.str)), (pu, .lst (us.map V.str)), (b, bagO x7 y7 z7)]) ⟨[], none, rfl, by simp, by simp, fun _ h => by simp at h, fun h => absurd rfl h, W8⟩ (fun pre post σ H' _ h => ?_) ?_ ?_
    · obtain ⟨gl, y3, _, _, _, _, _, W9⟩ := h
      exact W9.sq 0 rfl
    · rintro pre v post σ H9 ex ⟨gl, y3, rfl, hgl, ndg, ug, nn, W9⟩
      obtain ⟨s, hs, rfl⟩ : ∃ s, s ∈ al ∧ v = V.str s := by
        have : v ∈ al.map V.str := by rw [ex]; simp
        obtain ⟨s, h1, h2⟩ := List.mem_map.mp this
        exact ⟨s, h1, h2.symm⟩
      have lp : pre.length < 12 := by
        have := congrArg List.length ex
        rw [List.length_map, List.length_append, List.length_cons] at this
        omega
      refine ⟨_, rfl, _, rfl, p4, _, rfl, .inl (W9.sq 1 rfl), rfl, FR.flat_strs _, _, rfl, ?_⟩
      show if (!inV (V.str s) (gl.map V.str)) = true then _ else _
      rw [in_strs]
      refine ifN (fun c => ?_) (fun c => ?_)
      · walk_at "rd"
        rename_i H10 kp10 hp10 W10
        refine ⟨gl ++ [s], _, rfl, by rw [List.length_append, List.length_append]; simp; omega, List.nodup_append.mpr ⟨ndg, by simp, fun a ha b' hb' e => c (by have hb2 : b' = s := List.mem_singleton.mp hb'; rw [← hb2, ← e]; exact ha)⟩, fun t ht => ?_, fun _ => by simp, ?_⟩
        · rcases List.mem_append.mp ht with h | h
          · exact ug t h
          · rw [List.mem_singleton.mp h]; exact uall s hs
        · rw [List.map_append]
          exact W10
      · exact ⟨gl, _, rfl, by rw [List.length_append]; omega, ndg, ug, fun _ e => by rw [e] at c; simp at c, W9⟩
    · rintro σ H9 ⟨gl, y3, rfl, hgl, ndg, ug, nn, W9⟩
      rw [List.length_map] at hgl
      have gne : gl ≠ [] := nn fun e => nall (List.map_eq_nil_iff.mp e)
      clear nn W8
      walk_at "rd"
      walk_at "take"
      rename_i d10 x10 y10 z10 H10 d100 d101 ok10 kp10 hb10 W10
      obtain ⟨k, rfl⟩ := Int.eq_ofNat_of_zero_le d100
      refine ⟨_, _, rfl, rfl, _, rfl, ?_⟩
      refine ⟨p4, _, rfl, W10.sq 1 rfl, NewO.mk fun pg H11 n11 k11 h11 => ?_⟩
      rw [show (1 : Int) + (k : Int) = ((1 + k : Nat) : Int) by omega, cutV_to, ← List.map_take] at h11
      have W11 := (W10.res (W10.call0 k11) n11 h11).sel (L' := [(pg, _), (pu, .lst (us.map V.str)), (b, bagO x10 y10 z10)]) (.cons₂ _ (.cons _ (.cons _ (.cons₂ _ (.cons₂ _ .slnil)))))
      have ndg2 : (gl.take (1 + k)).Nodup := ndg.sublist (List.take_sublist _ _)
      have ug2 : Uss (gl.take (1 + k)) := fun s hs => ug s (List.mem_of_mem_take hs)
      have lg2 : 1 ≤ (gl.take (1 + k)).length ∧ (gl.take (1 + k)).length ≤ 6 := by
        have := List.length_pos_iff.mpr gne
        rw [List.length_take]
        omega
      generalize gl.take (1 + k) = g2 at h11 W11 ndg2 ug2 lg2
      clear W10 W9 ndg ug gne hgl
      walk_at "rd"
      rename_i pd H12 n12 k12 h12 W12
      have L0 : LM H H12 b pd pu pg us g2 [] x10 y10 z10 := ⟨W12.fresh (by simp), W12.keep, W12.get 3 rfl, h12, W12.get 2 rfl, W12.get 1 rfl, fun _ h => by simp at h, by simp, fun _ h => by simp at h, fun _ h => by simp at h⟩
      have ok12 : BagOk (n + 43) x10 y10 z10 := ok10.mono (by omega)
      clear W12 W11 ok10 n12 k12 h12 n11 k11 h11
      refine ⟨⟨_, .inl (.inl L0.hu)⟩, ?_⟩
      refine for_li (K := K) (a := pu) (xs := us.map V.str) (fun pre σ H' => ∃ es x y z y5 y6 y7 y8, σ = [some (.ref b), some (.ref pu), some (.ref pg), y3, some (.ref pd), y5, y6, y7, y8] ∧ es.length ≤ pre.length ∧ (pre ≠ [] → es ≠ []) ∧ BagOk (n + 43 + 7 * pre.length) x y z ∧ LM H H' b pd pu pg us g2 es x y z) ⟨[], _, _, _, _, _, _, _, rfl, by simp, fun h => absurd rfl h, ok12, L0⟩ (fun pre post σ H' _ h => ?_) ?_ ?_
      · obtain ⟨es, _, _, _, _, _, _, _, _, _, _, _, h⟩ := h
        exact .inl (.inl h.hu)
      · rintro pre v post σ Hi ex ⟨es, xi, yi, zi, y5, y6, y7, y8, rfl, les, nes, oki, L⟩
        obtain ⟨s, hs, rfl⟩ : ∃ s, s ∈ us ∧ v = V.str s := by
          have : v ∈ us.map V.str := by rw [ex]; simp
          obtain ⟨s, h1, h2⟩ := List.mem_map.mp this
          exact ⟨s, h1, h2.symm⟩
        have lp : pre.length < 6 := by
          have := congrArg List.length ex
          rw [List.length_map, List.length_append, List.length_cons] at this
          omega
        have nbd : b ≠ pd := ne_of L.hb L.hd (fun z => by cases z)
        have npg : pg ∉ [b, pd] := by
          simp only [List.mem_cons, List.not_mem_nil, or_false, not_or]
          exact ⟨ne_of L.hg L.hb (Ne.symm bag_ne), ne_of L.hg L.hd (fun z => by cases z)⟩
        have Wi : Ow Hi [b, pd] Hi [(b, bagO xi yi zi), (pd, .dK (dEs es))] := Ow.startL (L := [(b, bagO xi yi zi), (pd, .dK (dEs es))]) (fun p hp => by
          simp only [List.mem_cons, List.not_mem_nil, or_false] at hp
          rcases hp with rfl | rfl
          · exact L.hb
          · exact L.hd) (by simp [nbd])
        refine ⟨_, rfl, pg, _, rfl, .inl (.inl (.inl L.hg)), NewO.mk fun pl H13 n13 k13 h13 => ?_⟩
        have W13 := Wi.res (Wi.call0 k13) n13 h13
        walk_at "rd"
        rename_i p14 H14 n14 s14 k14 h14 W14
        refine ⟨pg, _, rfl, .inl (.inl (.inl (W14.keep _ _ L.hg npg))), ?_⟩
        refine ⟨b, _, _, _, _, _, rfl, W14.get 2 rfl, oki, by omega, by rw [List.length_map]; omega, by rw [List.length_map]; omega, fun d x15 y15 z15 H15 d0 d1 ok15 k15 hb15 => ?_⟩
        have W15 := W14.any1 2 rfl k15 hb15
        obtain ⟨m, rfl⟩ := Int.eq_ofNat_of_zero_le d0
        rw [List.length_map] at d1
        refine ⟨_, _, rfl, rfl, _, rfl, by omega, by omega, ?_⟩
        have tn : ((1 : Int) + (m : Int)).toNat = 1 + m := by omega
        refine for_rg (fun i σ H' => ∃ ls ss x y z y8, σ = [some (.ref b), some (.ref pu), some (.ref pg), y3, some (.ref pd), some (.str s), some (.ref pl), some (.ref p14), y8] ∧ (ss ++ ls).Perm g2 ∧ ss.length = i ∧ BagOk (n + 44 + 7 * pre.length + i) x y z ∧ Ow Hi [b, pd] H' [(p14, .lst (ss.map V.str)), (pl, .lst (ls.map V.str)), (b, bagO x y z), (pd, .dK (dEs es))]) ⟨g2, [], _, _, _, _, rfl, .refl _, rfl, ok15.mono (by omega), ?_⟩ ?_ ?_
        · exact W15
        · rintro i σ H16 hi ⟨ls, ss, x16, y16, z16, y8', rfl, pm, lss, ok16, W16⟩
          rw [tn] at hi
          have ll : ss.length + ls.length = g2.length := by rw [← List.length_append, pm.length_eq]
          refine ⟨_, rfl, .inl ⟨rfl, _, W16.sq 0 rfl⟩, ?_⟩
          refine ⟨_, rfl, .inl ⟨rfl, _, W16.sq 1 rfl⟩, ?_⟩
          refine ⟨_, rfl, _, rfl, pl, _, rfl, .inl (W16.sq 1 rfl), ?_⟩
          refine ⟨b, _, _, _, _, _, rfl, W16.get 2 rfl, ok16, by omega, by rw [List.length_map]; omega, by rw [List.length_map]; omega, fun d x17 y17 z17 H17 d0 d1 ok17 k17 hb17 => ?_⟩
          have W17 := W16.any1 2 rfl k17 hb17
          obtain ⟨t, rfl⟩ := Int.eq_ofNat_of_zero_le d0
          rw [List.length_map] at d1
          have tl : t < ls.length := by omega
          refine ⟨pl, _, _, t, .str ls[t], rfl, rfl, W17.get 1 rfl, by omega, by omega, ?_, by rw [List.getElem?_map, List.getElem?_eq_getElem tl]; rfl, ?_⟩
          · rw [PySem.StrLaws.seqIndex_nonneg (by omega) (by rw [List.length_map]; omega)]
            rfl
          have W18 := W17.set (o' := .lst ((ls.map V.str).eraseIdx t)) 1 rfl
          have ee : (ls.map V.str).eraseIdx t = (ls.eraseIdx t).map V.str := erase_map _ _ _
          rw [ee] at W18 ⊢
          walk_at "rd"
          rename_i H19 kp19 hp19 W19
          refine ⟨ls.eraseIdx t, ss ++ [ls[t]], _, _, _, _, rfl, ?_, by rw [List.length_append, lss]; rfl, ok17.mono (by omega), ?_⟩
          · rw [List.append_assoc]
            exact ((erase_perm tl).append_left ss).trans pm
          · rw [List.map_append]
            exact W19
        · rintro σ H16 ⟨ls, ss, x16, y16, z16, y8', rfl, pm, lss, ok16, W16⟩
          rw [tn] at lss ok16
          have ndss : ss.Nodup ∧ ∀ g ∈ ss, g ∈ g2 := by
            have := pm.nodup_iff.mpr ndg2
            exact ⟨(List.nodup_append.mp this).1, fun g hg => pm.mem_iff.mp (List.mem_append_left _ hg)⟩
          refine ⟨_, rfl, _, rfl, _, rfl, ?_⟩
          refine ⟨pd, _, rfl, .inl ⟨dEs es, Sum.inr s, W16.get 3 rfl, rfl, size_ok (by rw [dEs_len]; omega), rfl⟩, ?_⟩
          rw [putE_d]
          have W20 := W16.set (o' := .dK (dEs (putE es p14 s ss))) 3 rfl
          have far : ∀ a, a ≠ b → a ≠ pd → ∀ o, Hi a = some o → upd H16 pd (.dK (dEs (putE es p14 s ss))) a = some o := fun a n1 n2 o ho => W20.keep a o ho (by simp [n1, n2])
          refine ⟨putE es p14 s ss, _, _, _, _, _, _, _, rfl, ?_, fun _ e => ?_, ok16.mono (by rw [List.length_append, List.length_singleton]; omega), ?_⟩
          · rw [List.length_append, List.length_singleton]
            have := (putE_len (es := es) (q := p14) (u := s) (xs := ss)).2
            omega
          · have := (putE_len (es := es) (q := p14) (u := s) (xs := ss)).1
            rw [e] at this
            simp at this
          · have nub : pu ≠ b := ne_of L.hu L.hb (Ne.symm bag_ne)
            have nud : pu ≠ pd := ne_of L.hu L.hd (fun z => by cases z)
            simp only [List.mem_cons, List.not_mem_nil, or_false, not_or] at npg
            refine ⟨L.fd, fun a o ha na => ?_, W20.get 2 rfl, W20.get 3 rfl, far pu nub nud _ L.hu, far pg npg.1 npg.2 _ L.hg, fun e he => ?_, putE_keys L.kn, fun e he => ?_, fun e he => ?_⟩
            · have h1 := L.kp a o ha na
              exact far a (by simpa using na) (fun e => by rw [e, L.fd] at ha; cases ha) o h1
            · rcases putE_mem he with he | rfl
              · have h1 := L.hl e he
                exact far e.1 (ne_of h1 L.hb (Ne.symm bag_ne)) (ne_of h1 L.hd (fun z => by cases z)) _ h1
              · exact W20.get 0 rfl
            · rcases putE_mem he with he | rfl
              · exact L.ku e he
              · exact uus s hs
            · rcases putE_mem he with he | rfl
              · exact L.kg e he
              · exact ⟨ndss.2, ndss.1, by show 1 ≤ ss.length; omega⟩
      · rintro σ H9 ⟨es, xi, yi, zi, y5, y6, y7, y8, rfl, les, nes, oki, L⟩
        rw [List.length_map] at les oki
        walk_at "rd"
        have esne : es ≠ [] := nes fun e => by
          have := congrArg List.length e
          rw [List.length_map] at this
          simp only [List.length_nil] at this
          omega
        have gl6 : ∀ e ∈ es, e.2.2.length ≤ 6 := fun e he => Nat.le_trans ((L.kg e he).2.1.length_le_of_subset (L.kg e he).1) lg2.2
        refine q es pd xi yi zi H9 ⟨?_, fun e he => ?_, fun e he => ?_, ?_, ?_, ⟨g2, lg2.2, fun e he g hg => ?_⟩⟩ (oki.mono (by omega)) L.kp L.hb ⟨L.hd, L.hl⟩
        · unfold mEs
          rw [List.map_map]
          exact L.kn
        · obtain ⟨e', he', rfl⟩ := List.mem_map.mp he
          exact L.ku e' he'
        · obtain ⟨e', he', rfl⟩ := List.mem_map.mp he
          have k := L.kg e' he'
          exact ⟨fun g hg => ug2 g (k.1 g hg), k.2.1, k.2.2, gl6 e' he'⟩
        · rw [mEs_len]
          exact List.length_pos_iff.mpr esne
        · rw [mEs_len]
          omega
        · obtain ⟨e', he', rfl⟩ := List.mem_map.mp he
          exact (L.kg e' he').1 g hg
end
end K23
namespace K23
open PySem PySem.Spec PyProof.Rows L2 FR TL
open C8 (pss_cut pe_gc)
theorem having_sm {m : Mp} {ys : List Str} (e : sm m = ys.map fun u => (u, mget m u)) (g : Str) : having (sm m) g = ys.filter fun u => decide (g ∈ mget m u) := by
  rw [e]
  unfold having
  rw [List.filter_map, List.map_map]
  exact List.map_id _
theorem filt_snoc {ys : List Str} {i : Nat} {u : Str} {p : Str → Bool} (h : ys[i]? = some u) : (ys.take (i + 1)).filter p = (ys.take i).filter p ++ if p u = true then [u] else [] := by
  rw [List.take_add_one, h]
  show ((ys.take i ++ [u]).filter p) = _
  rw [List.filter_append, List.filter_cons]
  congr 1
section
variable {P : Program} {w : World} {K : PySem.W.Frag} {mg : Str → Option Value} {base : Heap} {A : Ads}
set_option pp.maxSteps 120
def spRight (C : Addr) : Sp := fun vs H Q _ => ∃ p a es, vs = [.ref p, .ref a] ∧ Pp C H p (sm (mEs es)) (gsOf (mEs es)) ∧ ML H a es ∧ Mk (mEs es) ∧ (sm (mEs es)).Perm (mEs es) ∧ ∀ H', Keep [] H H' → Q (.bl true) H'
theorem ok_fresh_right (T : Txt K mg A) : FnOk P w K mg base CX0 3 A.f_fresh_right A.d_fresh_right ["_law_people", "_law_members_one"] (spRight A.C_People) := by
  refine T.F_fresh_right.ok sc_fresh_right (fun vs H Q E h => ?_) (fun cdv A_ outer s_ H vs Q E hr h => ?_)
  · obtain ⟨p, a, es, rfl, _⟩ := h
    rfl
  · obtain ⟨p, a, es, rfl, hp, hm, gd, pm, q⟩ := h
    refine ⟨_, (pss_cons (ps_for PassesOwn.never rfl (pi_list (pe_revL (pe_call (ok_all_groups T) (hr.mono (by decide)) (by rfl) T.g_all_groups T.F_all_groups.kp T.B_all_groups .nil pass0 (pa_cons (pv 1) pa_nil)))) (pg_name (i := 2) sc_fresh_right.nd rfl (.inr rfl)) (pss_one (ps_if (pt_cmpR (op_neD hr.units) (pe_methK0 (pv 0) T.cl_People T.me_People_members (ok_People_members T) (hr.mono (by decide)) (kbF T.F_People_members 1 ["group"] (fun us ws => us ++ ws) (fun r1 r2 => r1.append r2) (by walk_at "kwb")) pass0 (pk_cons (pv 2) pk_nil)) (pe_lc (own := [("_law_one", 3)]) (g := gName 3) rfl sc_fresh_right.nd (pi_list (pe_callB (call_sortedD rfl) (by rfl) T.b_sorted (by decide +kernel) (pa_cons (pv 1) pa_nil))) (blkOk_by (own := [("_law_one", 3)]) (N := N_fresh_right) (sc := defScope s_fresh_right) (by decide +kernel)) (fun _ _ _ _ _ => pg_name (i := 3) sc_fresh_right.nd rfl (Or.inl rfl)) (fun _ _ _ _ _ => (pts_one (pt_cmpR (op_in_seqK (K := K) rfl) (pv 2) (pe_dget (hu_of hr) (pv 1) (pv 3) (fun _ _ => rfl)) rfl))) (fun _ _ _ _ _ => (pv 3))) (nomark _)) (pss_one (ps_ret pe_bl)) pss_nil)))
  (pss_one (ps_ret (pe_cmpR op_eq (pe_callB (call_lenI T.me_People___len__.at_ T.me_People___len__.fn ((ok_People___len__ T).raw T.B_People___len__ .nil) (hr.mono (by decide)) pass0) (by rfl) T.b_len PySem.boot_len (pa_cons (pv 0) pa_nil)) (pe_callB call_lenD (by rfl) T.b_len PySem.boot_len (pa_cons (pv 1) pa_nil)) (nomark _))))), ?_⟩
    refine ⟨_, rfl, a, es, rfl, hm, gd, NewO.mk fun g1 H1 n1 k1 h1 => ?_⟩
    refine ⟨g1, _, rfl, .inl (.inl h1), fun g2 n2 => ?_⟩
    have k2 := k1.trans (keep_new (o := .lst ((gsOf (mEs es)).map V.str).reverse) n2)
    have h2 : upd H1 g2 (.lst ((gsOf (mEs es)).map V.str).reverse) g2 = some (.lst ((gsOf (mEs es)).reverse.map V.str)) := by rw [upd_same, List.map_reverse]
    generalize upd H1 g2 (.lst ((gsOf (mEs es)).map V.str).reverse) = H2 at k2 h2 ⊢
    refine ⟨g2, rfl, ⟨_, .inl (.inl h2)⟩, ?_⟩
    refine for_li (K := K) (a := g2) (xs := (gsOf (mEs es)).reverse.map V.str) (fun pre σ H' => (∃ y2 y3, σ = [some (.ref p), some (.ref a), y2, y3]) ∧ Keep [] H2 H') ⟨⟨none, none, rfl⟩, Keep.refl⟩ (fun pre post σ H' _ h => .inl (.inl (h.2 _ _ h2 (by simp)))) ?_ ?_
    · rintro pre v post σ H3 ex ⟨⟨y2, y3, rfl⟩, k3⟩
      obtain ⟨g, hg, rfl⟩ : ∃ s, s ∈ gsOf (mEs es) ∧ v = V.str s := by
        have : v ∈ (gsOf (mEs es)).reverse.map V.str := by rw [ex]; simp
        obtain ⟨s, h1, h2⟩ := List.mem_map.mp this
        exact ⟨s, List.mem_reverse.mp h1, h2.symm⟩
      have k4 := k2.trans k3
      have hp4 := hp.keep k4
      have hm4 := hm.keep k4
      obtain ⟨d, gg, dx, kvs, hpl⟩ := id hp4
      refine ⟨_, rfl, p, dx, _, rfl, hpl.ob, rfl, ?_⟩
      refine ⟨_, rfl, rfl, ?_⟩
      refine ⟨p, _, _, g, rfl, hp4, hg, NewO.mk fun l5 H5 n5 k5 h5 => ?_⟩
      have k6 := k4.trans k5
      refine ⟨_, rfl, a, _, (mEs es).map (·.1), rfl, .inl (hm.keep k6).hd, hm.dm.keys, by rw [List.length_map]; have := gd.l6; omega, fun ys l7 py sy n7 => ?_⟩
      have W7 : Ow H2 [] (upd H5 l7 (.lst (ys.map V.str))) [(l7, .lst (ys.map V.str)), (l5, .lst ((having (sm (mEs es)) g).map V.str))] := ((Ow.start0.call0 k3).res ((Ow.start0.call0 k3).call0 k5) n5 h5).new n7
      generalize upd H5 l7 (.lst (ys.map V.str)) = H7 at W7 ⊢
      refine ⟨l7, rfl, ⟨_, W7.sq 0 rfl⟩, fun D hD => ?_⟩
      have W8 := W7.new (o := .lst []) hD
      refine lc_it (walk_list (xs := ys.map V.str)) (fun i H' => Ow H2 [] H' [(D, .lst (((ys.take i).filter fun u => decide (g ∈ mget (mEs es) u)).map V.str)), (l7, .lst (ys.map V.str)), (l5, .lst ((having (sm (mEs es)) g).map V.str))]) W8 (fun i H' _ W => W.sq 1 rfl) (fun i x H9 H10 hi W9 y => ?_) (fun H9 W9 => ?_)
      · obtain ⟨rfl, hx⟩ := y
        rw [List.getElem?_map] at hx
        obtain ⟨u, hu, rfl⟩ := Option.map_eq_some_iff.mp hx
        have hum : u ∈ (mEs es).map (·.1) := py.mem_iff.mp (List.mem_of_getElem? hu)
        have hm9 : ML H10 a es := hm.keep (k2.trans W9.keep)
        obtain ⟨v, hv, q', rfl, hq⟩ := hm9.dm.val hum
        obtain ⟨e, he, eu⟩ := List.mem_map.mp hum
        walk_at "rd"
        refine ⟨a, _, rfl, .inl ⟨_, Sum.inr u, .inl hm9.hd, rfl, hv.symm⟩, ?_⟩
        refine ⟨q', _, rfl, .inl (.inl (.inl hq)), rfl, FR.flat_strs _, _, rfl, ?_⟩
        have hlen : (((ys.take i).filter fun u => decide (g ∈ mget (mEs es) u)).map V.str).length < sizeLine := by
          refine size_ok ?_
          rw [List.length_map]
          have h1 := List.length_filter_le (fun u => decide (g ∈ mget (mEs es) u)) (ys.take i)
          have h2 := List.length_take_le' i ys
          have h3 := py.length_eq
          rw [List.length_map] at h3
          have := gd.l6
          omega
        rw [in_strs]
        show if decide (g ∈ mget (mEs es) u) = true then _ else _
        refine ifD (fun c => ?_) (fun c => ?_)
        · refine ⟨_, rfl, _, W9.get 0 rfl, hlen, ?_⟩
          rw [filt_snoc hu, if_pos (decide_eq_true c), List.map_append]
          exact W9.set 0 rfl
        · rw [filt_snoc hu, if_neg (by rw [decide_eq_false c]; exact Bool.false_ne_true), List.append_nil]
          exact W9
      · rw [List.length_map, List.take_length] at W9
        have eM := sm_eq py sy
        have all : ∀ s ∈ (ys.filter fun u => decide (g ∈ mget (mEs es) u)), Asc s := fun s hs => by
          obtain ⟨e, he, eu⟩ := List.mem_map.mp (py.mem_iff.mp (List.mem_filter.mp hs).1)
          rw [← eu]
          exact (gd.us e he).1.asc
        rw [having_sm eM] at W9
        refine ⟨_, _, dp_strs (W9.sq 2 rfl), dp_strs (W9.sq 0 rfl), shaped_strs all, shaped_strs all, ?_⟩
        rw [eqv_dstrs]
        refine ⟨_, rfl, ?_⟩
        refine ifF rfl ?_
        exact ⟨⟨_, _, rfl⟩, W9.keep⟩
    · rintro σ H3 ⟨⟨y2, y3, rfl⟩, k3⟩
      have k4 := k2.trans k3
      have hp4 := hp.keep k4
      have hm4 := hm.keep k4
      obtain ⟨d, gg, dx, kvs, hpl⟩ := id hp4
      refine ⟨_, rfl, p, dx, _, rfl, hpl.ob, ?_⟩
      refine ⟨p, _, _, rfl, hp4, ?_⟩
      have pl : (sm (mEs es)).length = es.length := by rw [pm.length_eq, mEs_len]
      refine ⟨_, rfl, by omega, by have := gd.l6; rw [mEs_len] at this; omega, ?_⟩
      refine ⟨_, rfl, a, _, rfl, hm4.hd, ?_⟩
      refine ⟨rfl, ?_⟩
      show Q (.bl (decide (V.int ((sm (mEs es)).length : Nat) = V.int ((dEs es).length : Nat)))) H3
      rw [pl, dEs_len, decide_eq_true rfl]
      exact q H3 k4
end
end K23
namespace K23
open PySem PySem.Spec PyProof.Rows L2 FR TL
open C8 (pss_cut pe_gc)
section
variable {P : Program} {w : World} {K : PySem.W.Frag} {mg : Str → Option Value} {base : Heap} {A : Ads}
set_option pp.maxSteps 120
theorem odd_non {K : PySem.W.Frag} {H : Hp} {v : V} (h : v = .non ∨ v = .int 7) (ws : List Str) : InT K H v ws false := by
  rcases h with rfl | rfl
  · refine .inl ⟨rfl, ?_⟩
    unfold inV
    rw [List.any_eq_false]
    intro x hx
    obtain ⟨s, _, rfl⟩ := List.mem_map.mp hx
    exact Bool.false_ne_true
  · refine .inl ⟨rfl, ?_⟩
    unfold inV
    rw [List.any_eq_false]
    intro x hx
    obtain ⟨s, _, rfl⟩ := List.mem_map.mp hx
    exact Bool.false_ne_true
theorem odd_seq {K : PySem.W.Frag} {H : Hp} {v : V} {d : PyData} (h : Dp K H v d) (sh : SeqAt.shaped d = true) (hd : (∃ l, d = .list l) ∨ ∃ l, d = .tuple l) {ws : List Str} (a : ∀ s ∈ ws, Asc s) : InT K H v ws false := by
  refine .inr (.inl ⟨d, h, sh, shaped_strs a, ?_⟩)
  rw [List.any_eq_false]
  intro x hx
  obtain ⟨s, _, rfl⟩ := List.mem_map.mp hx
  rcases hd with ⟨l, rfl⟩ | ⟨l, rfl⟩
  · exact Bool.false_ne_true
  · exact Bool.false_ne_true
theorem eqv_two (a b : List Str) : PyData.eqv (.list [dStrs a, dStrs b]) (.list [dStrs a, dStrs b]) = true := by
  rw [PyData.eqv, PyData.eqvAll, PyData.eqvAll, PyData.eqvAll, eqv_dstrs, eqv_dstrs]
  rfl
theorem shaped_two {a b : List Str} (ha : ∀ s ∈ a, Asc s) (hb : ∀ s ∈ b, Asc s) : SeqAt.shaped (.list [dStrs a, dStrs b]) = true := by
  unfold SeqAt.shaped dStrs
  rw [PyData.canLay0, PyData.canLayAll0, PyData.canLayAll0, PyData.canLayAll0, PyData.canLay0, PyData.canLay0, lay_strs ha, lay_strs hb, PyData.depth, PyData.depthAll, PyData.depthAll, PyData.depthAll, PyData.depth, PyData.depth, depth_strs, depth_strs]
  rfl
theorem ok_right (T : Txt K mg A) : FnOk P w K mg base CX0 4 A.f_right A.d_right ["_law_people", "_law_members_one"] (spRight A.C_People) := by
  refine T.F_right.ok sc_right (fun vs H Q E h => ?_) (fun cdv A_ outer s_ H vs Q E hr h => ?_)
  · obtain ⟨p, a, es, rfl, _⟩ := h
    rfl
  · obtain ⟨p, a, es, rfl, hp, hm, gd, pm, q⟩ := h
    refine ⟨_, (pss_cons (ps_asg (pe_tupN (pa_cons (pe_callB (call_sortedD rfl) (by rfl) T.b_sorted (by decide +kernel) (pa_cons (pv 1) pa_nil)) (pa_cons (pe_call (ok_all_groups T) (hr.mono (by decide)) (by rfl) T.g_all_groups T.F_all_groups.kp T.B_all_groups .nil pass0 (pa_cons (pv 1) pa_nil)) pa_nil))) (pg_tup rfl (pgs_cons (pg_name (i := 2) sc_right.nd rfl (.inr rfl)) (pgs_cons (pg_name (i := 3) sc_right.nd rfl (.inl rfl)) pgs_nil))))
  (pss_cons (ps_for PassesOwn.never rfl (pi_range1 (by rfl) T.b_range (pa_cons pe_int pa_nil)) (pg_name (i := 4) sc_right.nd rfl (.inl rfl)) (pss_cons (ps_set (i := 5) sc_right.nd rfl (.inl rfl) (pe_lstS (pa_cons (pe_meth0 (pv 0) T.cl_People T.me_People_users (ok_People_users T) (hr.mono (by decide)) T.B_People_users .nil pass0) (pa_cons (pe_meth0 (pv 0) T.cl_People T.me_People_groups (ok_People_groups T) (hr.mono (by decide)) T.B_People_groups .nil pass0) pa_nil))))
  (pss_cons (ps_if (PW.pt (pw_or (pt_cmpR (op_neD hr.units) (pv 5) (pe_lstS (pa_cons (pv 2) (pa_cons (pv 3) pa_nil))) (nomark _)) (pw_or1 (pt_cmpR op_ne (pe_callB (call_lenI T.me_People___len__.at_ T.me_People___len__.fn ((ok_People___len__ T).raw T.B_People___len__ .nil) (hr.mono (by decide)) pass0) (by rfl) T.b_len PySem.boot_len (pa_cons (pv 0) pa_nil)) (pe_callB call_len_seq (by rfl) T.b_len PySem.boot_len (pa_cons (pv 2) pa_nil)) (nomark _))))) (pss_one (ps_ret pe_bl)) pss_nil)
  (pss_cons (ps_for PassesOwn.never rfl (pi_list (pv 5)) (pg_name (i := 6) sc_right.nd rfl (.inl rfl)) (pss_one (ps_expr (pe_bm PySem.F.plainAttrs_list PySem.F.slot_list_append PySem.F.type_list_append mt_appN (pv 6) (pa_cons pe_str pa_nil)))))
  (pss_cons (ps_for PassesOwn.never rfl (pi_list (pv 2)) (pg_name (i := 7) sc_right.nd rfl (.inl rfl)) (pss_cons (ps_set (i := 8) sc_right.nd rfl (.inl rfl) (pe_meth (pv 0) T.cl_People T.me_People_groups_of (ok_People_groups_of T) (hr.mono (by decide)) T.B_People_groups_of .nil pass0 (pa_cons (pv 7) pa_nil)))
  (pss_cons (ps_if (PW.pt (pw_or (pt_cmpR (op_neD hr.units) (pv 8) (pe_dget (hu_of hr) (pv 1) (pv 7) (fun _ _ => rfl)) (nomark _)) (pw_or1 (pt_cmpR op_ne (pe_methK0 (pv 0) T.cl_People T.me_People_first_group (ok_People_first_group T) (hr.mono (by decide)) (kbF T.F_People_first_group 1 ["user"] (fun us ws => us ++ ws) (fun r1 r2 => r1.append r2) (by walk_at "kwb")) pass0 (pk_cons (pv 7) pk_nil)) (pe_ix ix_list (pe_dget (hu_of hr) (pv 1) (pv 7) (fun _ _ => rfl)) pe_int (fun _ _ => rfl)) (nomark _))))) (pss_one (ps_ret pe_bl)) pss_nil)
  (pss_one (ps_expr (pe_bm0 PySem.F.plainAttrs_list PySem.F.slot_list_clear PySem.F.type_list_clear mt_clear (pv 8)))))))
  (pss_one (ps_for PassesOwn.never rfl (pi_list (pv 3)) (pg_name (i := 9) sc_right.nd rfl (.inr rfl)) (pss_cons (ps_set (i := 8) sc_right.nd rfl (.inl rfl) (pe_methK0 (pv 0) T.cl_People T.me_People_members (ok_People_members T) (hr.mono (by decide)) (kbF T.F_People_members 1 ["group"] (fun us ws => us ++ ws) (fun r1 r2 => r1.append r2) (by walk_at "kwb")) pass0 (pk_cons (pv 9) pk_nil)))
  (pss_cons (ps_if (pt_cmpR (op_neD hr.units) (pv 8) (pe_lc (own := [("_law_user_one", 7)]) (g := gName 7) rfl sc_right.nd (pi_list (pv 2)) (blkOk_by (own := [("_law_user_one", 7)]) (N := N_right) (sc := defScope s_right) (by decide +kernel)) (fun _ _ _ _ _ => pg_name (i := 7) sc_right.nd rfl (Or.inl rfl)) (fun _ _ _ _ _ => (pts_one (pt_cmpR (op_in_seqK (K := K) rfl) (pv 9) (pe_dget (hu_of hr) (pv 1) (pv 7) (fun _ _ => rfl)) rfl))) (fun _ _ _ _ _ => (pv 7))) (nomark _)) (pss_one (ps_ret pe_bl)) pss_nil)
  (pss_one (ps_expr (pe_bm PySem.F.plainAttrs_list PySem.F.slot_list_append PySem.F.type_list_append mt_appN (pv 8) (pa_cons pe_str pa_nil)))))))))))))
  (pss_cons (ps_set (i := 10) sc_right.nd rfl (.inl rfl) (pe_op op_catN (pe_op op_catN (pv 2) (pv 3)) (pe_lstS (pa_cons pe_str (pa_cons pe_str (pa_cons pe_non (pa_cons pe_int (pa_cons (pe_lstS pa_nil) (pa_cons (pe_tupN (pa_cons (pe_ix ix_list (pv 2) pe_int (fun _ _ => rfl)) pa_nil)) (pa_cons (pe_op op_add_str (pe_ix ix_list (pv 2) pe_int (fun _ _ => rfl)) pe_str) (pa_cons (pe_slice sl_str (pe_ix ix_list (pv 2) pe_int (fun _ _ => rfl)) po_none (po_some (pe_un un_neg pe_int))) pa_nil)))))))))))
  (pss_one (ps_ret (pe_cmpR (op_eqD hr.units) (pe_lc (own := [("_law_thing", 11)]) (g := gName 11) rfl sc_right.nd (pi_list (pv 10)) (blkOk_by (own := [("_law_thing", 11)]) (N := N_right) (sc := defScope s_right) (by decide +kernel)) (fun _ _ _ _ _ => pg_name (i := 11) sc_right.nd rfl (Or.inl rfl)) (fun _ _ _ _ _ => (pts_one (pt_cmpR op_ne (pe_cmpR (op_inI T.me_People___contains__.at_ T.me_People___contains__.fn ((ok_People___contains__ T).raw T.B_People___contains__ .nil) (hr.mono (by decide)) pass0) (pv 11) (pv 0) rfl) (pe_cmpR (op_inTK (K := K) rfl (u65 hr)) (pv 11) (pv 2) rfl) (nomark _)))) (fun _ _ _ _ _ => (pv 11))) (pe_lstS pa_nil) (nomark _))))))), ?_⟩
    refine ⟨_, rfl, a, _, (mEs es).map (·.1), rfl, .inl hm.hd, hm.dm.keys, by rw [List.length_map]; have := gd.l6; omega, fun ys py_ py sy n1 => ?_⟩
    have W1 : Ow H [] _ [(py_, .lst (ys.map V.str))] := Ow.start0.new n1
    refine ⟨_, rfl, a, es, rfl, hm.keep W1.keep, gd, NewO.mk fun pg H2 n2 k2 h2 => ?_⟩
    have W2 := W1.res (W1.call0 k2) n2 h2
    walk_at "rd"
    rename_i p3 H3 n3 k3 h3 W3
    refine ⟨p3, _, rfl, W3.sqT 0 rfl, rfl, ?_⟩
    have W4 := W3.tail
    clear W3 W2 W1 h3 k3 n3
    have eM := sm_eq py sy
    have asY : ∀ s ∈ ys, Asc s := fun s hs => by
      obtain ⟨e, he, eu⟩ := List.mem_map.mp (py.mem_iff.mp hs)
      rw [← eu]
      exact (gd.us e he).1.asc
    have keyM : (sm (mEs es)).map (·.1) = ys := sm_keys py sy
    have lM : (sm (mEs es)).length = ys.length := by rw [← keyM, List.length_map]
    obtain ⟨_, _, _, _, hP⟩ := id hp
    have gmem := hP.gm
    have gln := hP.gl
    have gdM := hP.gd
    clear hP
    have asG : ∀ s ∈ gsOf (mEs es), Asc s := fun s hs => by
      obtain ⟨e, he, hx⟩ := (gmem s).mp hs
      exact gdM.asc e he s hx
    have keyY : ∀ u ∈ ys, u ∈ (sm (mEs es)).map (·.1) := fun u hu => by rw [keyM]; exact hu
    have keyE : ∀ u ∈ ys, u ∈ (mEs es).map (·.1) := fun u hu => py.mem_iff.mp hu
    have mgE : ∀ u, mget (sm (mEs es)) u = mget (mEs es) u := mget_perm gd.nd pm
    have ly : ys.length ≤ 6 := by rw [← lM]; exact gdM.l6
    have L0 : Ow H [] _ [(pg, .lst ((gsOf (mEs es)).map V.str)), (py_, .lst (ys.map V.str))] := W4
    clear W4
    walk_at "rd"
    refine for_rg (fun i σ H' => (∃ y4 y5 y6 y7 y8 y9 y10 y11, σ = [some (.ref p), some (.ref a), some (.ref py_), some (.ref pg), y4, y5, y6, y7, y8, y9, y10, y11]) ∧ Ow H [] H' [(pg, .lst ((gsOf (mEs es)).map V.str)), (py_, .lst (ys.map V.str))]) ⟨⟨_, _, _, _, _, _, _, _, rfl⟩, L0⟩ ?_ ?_
    · rintro turn σ H5 hturn ⟨⟨y4, y5, y6, y7, y8, y9, y10, y11, rfl⟩, W5⟩
      clear L0
      have hp5 := hp.keep W5.keep
      obtain ⟨d, gg, dx, kvs, hP5⟩ := id hp5
      refine ⟨_, rfl, p, dx, _, rfl, hP5.ob, rfl, ?_⟩
      refine ⟨p, _, _, rfl, hp5, NewO.mk fun u6 H6 n6 k6 h6 => ?_⟩
      rw [keyM] at h6
      have W6 := W5.res (W5.call0 k6) n6 h6
      refine ⟨_, rfl, p, dx, _, rfl, (hP5.keep k6).ob, rfl, ?_⟩
      refine ⟨p, _, _, rfl, hp5.keep k6, NewO.mk fun g7 H7 n7 k7 h7 => ?_⟩
      have W7 := W6.res (W6.call0 k7) n7 h7
      clear W6 k6 h6 n6 k7 h7 n7
      walk_at "rd"
      rename_i f8 H8 n8 s8 k8 h8 W8 f9 H9 n9 s9 k9 h9 W9
      have as2 := shaped_two asY asG
      refine ⟨.list [dStrs ys, dStrs (gsOf (mEs es))], .list [dStrs ys, dStrs (gsOf (mEs es))], .lst (W9.sq 1 rfl) (.cons (dp_strs (W9.sq 3 rfl)) (.cons (dp_strs (W9.sq 2 rfl)) .nil)), .lst (W9.sq 0 rfl) (.cons (dp_strs (W9.sq 5 rfl)) (.cons (dp_strs (W9.sq 4 rfl)) .nil)), as2, as2, ?_⟩
      rw [eqv_two]
      refine ⟨_, rfl, ?_⟩
      refine ifF rfl ?_
      have hp9 := hp.keep W9.keep
      obtain ⟨d, gg, dx, kvs, hP9⟩ := id hp9
      refine ⟨_, rfl, p, dx, _, rfl, hP9.ob, ?_⟩
      refine ⟨p, _, _, rfl, hp9, ?_⟩
      refine ⟨_, rfl, by omega, by omega, ?_⟩
      refine ⟨_, rfl, py_, _, rfl, .inl (W9.sq 5 rfl), ?_⟩
      refine ⟨rfl, _, rfl, ?_⟩
      refine ifF (by rw [lM, List.length_map, decide_eq_true rfl]; rfl) ?_
      refine ⟨_, rfl, f8, rfl, ⟨_, W9.sq 1 rfl⟩, ?_⟩
      have W10 := W9.tail
      clear W9 W8 W7 hp9 hP9 hp5 hP5 W5
      refine for_li (K := K) (a := f8) (xs := [.ref u6, .ref g7]) (fun pre σ H' => (∃ y6 y7 y8 y9 y10 y11, σ = [some (.ref p), some (.ref a), some (.ref py_), some (.ref pg), some (.int (0 + turn)), some (.ref f8), y6, y7, y8, y9, y10, y11]) ∧ ∃ l1 l2 : List V, l1.length ≤ 6 + pre.length ∧ l2.length ≤ 6 + pre.length ∧ Ow H [] H' [(f8, .lst [.ref u6, .ref g7]), (g7, .lst l2), (u6, .lst l1), (pg, .lst ((gsOf (mEs es)).map V.str)), (py_, .lst (ys.map V.str))]) ⟨⟨_, _, _, _, _, _, rfl⟩, _, _, ?_, ?_, W10⟩ (fun pre post σ H' _ h => ?_) ?_ ?_
      · rw [List.length_map]; omega
      · rw [List.length_map]; omega
      · obtain ⟨_, _, _, _, _, W⟩ := h
        exact W.sq 0 rfl
      · rintro pre v post σ H11 ex ⟨⟨y6, y7, y8, y9, y10, y11, rfl⟩, l1, l2, le1, le2, W11⟩
        have hv : v = .ref u6 ∨ v = .ref g7 := by
          have : v ∈ [V.ref u6, V.ref g7] := by rw [ex]; simp
          simpa using this
        have lp : pre.length < 2 := by
          have := congrArg List.length ex
          rw [List.length_append, List.length_cons] at this
          simp at this
          omega
        rcases hv with rfl | rfl
        · walk_at "rd"
          rename_i H12 k12 h12 W12
          exact ⟨⟨_, _, _, _, _, _, rfl⟩, l1 ++ [V.str (Str.ofString "more")], l2, by simp; omega, by simp; omega, by exact W12⟩
        · walk_at "rd"
          rename_i H12 k12 h12 W12
          exact ⟨⟨_, _, _, _, _, _, rfl⟩, l1, l2 ++ [V.str (Str.ofString "more")], by simp; omega, by simp; omega, by exact W12⟩
      · rintro σ H11 ⟨⟨y6, y7, y8, y9, y10, y11, rfl⟩, l1, l2, _, _, W11⟩
        have W12 := W11.tail.tail.tail
        clear W11 W10
        refine ⟨_, rfl, py_, rfl, ⟨_, W12.sq 1 rfl⟩, ?_⟩
        refine for_li (K := K) (a := py_) (xs := ys.map V.str) (fun pre σ H' => (∃ y4 y5 y6 y7 y8 y9 y10 y11, σ = [some (.ref p), some (.ref a), some (.ref py_), some (.ref pg), y4, y5, y6, y7, y8, y9, y10, y11]) ∧ Ow H [] H' [(pg, .lst ((gsOf (mEs es)).map V.str)), (py_, .lst (ys.map V.str))]) ⟨⟨_, _, _, _, _, _, _, _, rfl⟩, W12⟩ (fun pre post σ H' _ h => h.2.sq 1 rfl) ?_ ?_
        · rintro pre v post σ H13 ex ⟨⟨y4, y5, y6, y7, y8, y9, y10, y11, rfl⟩, W13⟩
          obtain ⟨u, hu, rfl⟩ : ∃ s, s ∈ ys ∧ v = V.str s := by
            have : v ∈ ys.map V.str := by rw [ex]; simp
            obtain ⟨s, h1, h2⟩ := List.mem_map.mp this
            exact ⟨s, h1, h2.symm⟩
          have hp13 := hp.keep W13.keep
          obtain ⟨d, gg, dx, kvs, hP13⟩ := id hp13
          refine ⟨_, rfl, p, dx, _, rfl, hP13.ob, rfl, _, rfl, ?_⟩
          refine ⟨p, _, _, u, rfl, hp13, keyY u hu, NewO.mk fun l14 H14 n14 k14 h14 => ?_⟩
          rw [mgE] at h14
          have W14 := W13.res (W13.call0 k14) n14 h14
          have hm14 := hm.keep W14.keep
          obtain ⟨e, he, eu⟩ := List.mem_map.mp (keyE u hu)
          have eg : mget (mEs es) u = e.2 := by rw [← eu]; exact mget_mem gd.nd he
          have ge := gd.gs e he
          have asx : ∀ s ∈ mget (mEs es) u, Asc s := fun s hs => by rw [eg] at hs; exact gd.asc e he s hs
          obtain ⟨x0, xr, exr⟩ : ∃ x0 xr, mget (mEs es) u = x0 :: xr := by
            rw [eg]
            cases h : e.2 with
            | nil => have := ge.2.2.1; rw [h] at this; simp at this
            | cons a b => exact ⟨a, b, rfl⟩
          obtain ⟨v, hv, q', rfl, hq⟩ := hm14.dm.val (keyE u hu)
          refine ⟨_, rfl, _, rfl, _, rfl, a, _, rfl, .inl ⟨_, Sum.inr u, .inl hm14.hd, rfl, hv.symm⟩, ?_⟩
          refine ⟨_, _, dp_strs (W14.sq 0 rfl), dp_strs (.inl (.inl hq)), shaped_strs asx, shaped_strs asx, ?_⟩
          rw [eqv_dstrs]
          refine ⟨_, rfl, ?_⟩
          refine ifF rfl ?_
          have hp14 := hp.keep W14.keep
          obtain ⟨d, gg, dx, kvs, hP14⟩ := id hp14
          refine ⟨_, rfl, p, dx, _, rfl, hP14.ob, rfl, ?_⟩
          refine ⟨_, rfl, rfl, ?_⟩
          refine ⟨p, _, _, u, x0, xr, rfl, hp14, keyY u hu, by rw [mgE]; exact exr, fun H15 k15 => ?_⟩
          have W15 := W14.call0 k15
          have hm15 := hm.keep W15.keep
          obtain ⟨v, hv, q', rfl, hq⟩ := hm15.dm.val (keyE u hu)
          rw [exr] at hq
          refine ⟨_, rfl, _, rfl, a, _, rfl, .inl ⟨_, Sum.inr u, .inl hm15.hd, rfl, hv.symm⟩, ?_⟩
          refine ⟨q', _, _, _, rfl, rfl, .inl (.inl hq), (show atI _ ((0 : Nat) : Int) = _ from atI_nat rfl), ?_⟩
          refine ⟨rfl, _, rfl, ?_⟩
          refine ifF (by rw [decide_eq_true rfl]; rfl) ?_
          refine ⟨_, rfl, .inl ⟨rfl, _, W15.sq 0 rfl⟩, l14, _, rfl, rfl, W15.get 0 rfl, ?_⟩
          exact ⟨⟨_, _, _, _, _, _, _, _, rfl⟩, (W15.set (o' := .lst []) 0 rfl).tail⟩
        · rintro σ H13 ⟨⟨y4, y5, y6, y7, y8, y9, y10, y11, rfl⟩, W13⟩
          clear W12
          refine ⟨_, rfl, pg, rfl, ⟨_, W13.sq 0 rfl⟩, ?_⟩
          refine for_li (K := K) (a := pg) (xs := (gsOf (mEs es)).map V.str) (fun pre σ H' => (∃ y4 y5 y6 y7 y8 y9 y10 y11, σ = [some (.ref p), some (.ref a), some (.ref py_), some (.ref pg), y4, y5, y6, y7, y8, y9, y10, y11]) ∧ Ow H [] H' [(pg, .lst ((gsOf (mEs es)).map V.str)), (py_, .lst (ys.map V.str))]) ⟨⟨_, _, _, _, _, _, _, _, rfl⟩, W13⟩ (fun pre post σ H' _ h => h.2.sq 0 rfl) ?_ ?_
          · rintro pre v post σ H14 ex ⟨⟨y4, y5, y6, y7, y8, y9, y10, y11, rfl⟩, W14⟩
            obtain ⟨g, hg, rfl⟩ : ∃ s, s ∈ gsOf (mEs es) ∧ v = V.str s := by
              have : v ∈ (gsOf (mEs es)).map V.str := by rw [ex]; simp
              obtain ⟨s, h1, h2⟩ := List.mem_map.mp this
              exact ⟨s, h1, h2.symm⟩
            have hp14 := hp.keep W14.keep
            obtain ⟨d, gg, dx, kvs, hP14⟩ := id hp14
            refine ⟨_, rfl, p, dx, _, rfl, hP14.ob, rfl, ?_⟩
            refine ⟨_, rfl, rfl, ?_⟩
            refine ⟨p, _, _, g, rfl, hp14, hg, NewO.mk fun l5 H15 n5 k5 h5 => ?_⟩
            have W15 := W14.res (W14.call0 k5) n5 h5
            refine ⟨_, rfl, _, rfl, py_, rfl, ⟨_, W15.sq 2 rfl⟩, fun D hD => ?_⟩
            have W16 := W15.new (o := .lst []) hD
            refine lc_it (walk_list (xs := ys.map V.str)) (fun i H' => Ow H [] H' [(D, .lst (((ys.take i).filter fun u => decide (g ∈ mget (mEs es) u)).map V.str)), (l5, .lst ((having (sm (mEs es)) g).map V.str)), (pg, .lst ((gsOf (mEs es)).map V.str)), (py_, .lst (ys.map V.str))]) W16 (fun i H' _ W => W.sq 3 rfl) (fun i x H9 H10 hi W9 y => ?_) (fun H9 W9 => ?_)
            · obtain ⟨rfl, hx⟩ := y
              rw [List.getElem?_map] at hx
              obtain ⟨u, hu, rfl⟩ := Option.map_eq_some_iff.mp hx
              have hm9 : ML H10 a es := hm.keep W9.keep
              obtain ⟨v, hv, q', rfl, hq⟩ := hm9.dm.val (keyE u (List.mem_of_getElem? hu))
              walk_at "rd"
              refine ⟨a, _, rfl, .inl ⟨_, Sum.inr u, .inl hm9.hd, rfl, hv.symm⟩, ?_⟩
              refine ⟨q', _, rfl, .inl (.inl (.inl hq)), rfl, FR.flat_strs _, _, rfl, ?_⟩
              have hlen : (((ys.take i).filter fun u => decide (g ∈ mget (mEs es) u)).map V.str).length < sizeLine := by
                refine size_ok ?_
                rw [List.length_map]
                have h1 := List.length_filter_le (fun u => decide (g ∈ mget (mEs es) u)) (ys.take i)
                have h2 := List.length_take_le' i ys
                omega
              rw [in_strs]
              show if decide (g ∈ mget (mEs es) u) = true then _ else _
              refine ifD (fun c => ?_) (fun c => ?_)
              · refine ⟨_, rfl, _, W9.get 0 rfl, hlen, ?_⟩
                rw [filt_snoc hu, if_pos (decide_eq_true c), List.map_append]
                exact W9.set 0 rfl
              · rw [filt_snoc hu, if_neg (by rw [decide_eq_false c]; exact Bool.false_ne_true), List.append_nil]
                exact W9
            · rw [List.length_map, List.take_length] at W9
              have all : ∀ s ∈ (ys.filter fun u => decide (g ∈ mget (mEs es) u)), Asc s := fun s hs => asY s (List.mem_filter.mp hs).1
              have lh : (having (sm (mEs es)) g).length ≤ 6 := Nat.le_trans (having_len _ _) gdM.l6
              have eh := having_sm eM g
              have W10 := W9
              rw [eh] at W9
              refine ⟨_, _, dp_strs (W9.sq 1 rfl), dp_strs (W9.sq 0 rfl), shaped_strs all, shaped_strs all, ?_⟩
              rw [eqv_dstrs]
              refine ⟨_, rfl, ?_⟩
              refine ifF rfl ?_
              refine ⟨_, rfl, .inl ⟨rfl, _, W10.sq 1 rfl⟩, ?_⟩
              refine ⟨l5, _, _, rfl, rfl, W10.get 1 rfl, size_ok (by rw [List.length_map]; omega), MutO.mk fun H11 k11 h11 => ?_⟩
              exact ⟨⟨_, _, _, _, _, _, _, _, rfl⟩, (W10.any1 1 rfl k11 h11).tail.tail⟩
          · rintro σ H14 ⟨⟨y4, y5, y6, y7, y8, y9, y10, y11, rfl⟩, W14⟩
            exact ⟨⟨_, _, _, _, _, _, _, _, rfl⟩, W14⟩
    · rintro σ H5 ⟨⟨y4, y5, y6, y7, y8, y9, y10, y11, rfl⟩, W5⟩
      clear L0
      obtain ⟨y0, yr, eyr⟩ : ∃ y0 yr, ys = y0 :: yr := by
        cases h : ys with
        | nil => have := gdM.l1; rw [lM, h] at this; simp at this
        | cons a b => exact ⟨a, b, rfl⟩
      have n0 : (y0 : Str).length ≤ 8 := by
        have hy : y0 ∈ ys := by rw [eyr]; simp
        obtain ⟨e, he, eu⟩ := List.mem_map.mp (keyE y0 hy)
        rw [← eu]
        exact (gd.us e he).1.l1
      have a0 : Asc y0 := asY y0 (by rw [eyr]; simp)
      have at0 : atI (ys.map V.str) 0 = some (.str y0) := by
        rw [eyr]
        exact (show atI _ ((0 : Nat) : Int) = _ from atI_nat rfl)
      walk_at "rd"
      refine ⟨py_, pg, _, _, rfl, rfl, W5.get 1 rfl, W5.get 0 rfl, size_le (by rw [List.length_map, List.length_map]; omega), NewO.mk fun c6 H6 n6 k6 h6 => ?_⟩
      have W6 := W5.res (W5.call0 k6) n6 h6
      refine ⟨Nat.zero_le _, NewS.mk fun e7 H7 n7 s7 k7 h7 => ?_⟩
      have W7 := W6.res (W6.call0 k7) n7 h7
      refine ⟨_, rfl, py_, _, _, _, rfl, rfl, W7.sq 3 rfl, at0, ?_⟩
      refine ⟨(show 1 ≤ sizeLine by decide), NewO.mk fun t8 H8 n8 k8 h8 => ?_⟩
      have W8 := W7.res (W7.call0 k8) n8 h8
      refine ⟨_, rfl, py_, _, _, _, rfl, rfl, W8.sq 4 rfl, at0, ?_⟩
      refine ⟨_, _, rfl, rfl, size_le (by have : (Str.ofString "q").length = 1 := by decide +kernel
                                          omega), ?_⟩
      refine ⟨_, rfl, py_, _, _, _, rfl, rfl, W8.sq 4 rfl, at0, ?_⟩
      refine ⟨_, rfl, _, rfl, _, rfl, size_le (by omega), ?_⟩
      refine ⟨(show 8 ≤ sizeLine by decide), NewS.mk fun l9 H9 n9 s9 k9 h9 => ?_⟩
      have W9 := W8.res (W8.call0 k9) n9 h9
      refine ⟨c6, l9, _, _, rfl, rfl, W9.get 3 rfl, W9.get 0 rfl, size_le (by simp; omega), NewO.mk fun T10 H10 n10 k10 h10 => ?_⟩
      have W10 := ((W9.res (W9.call0 k10) n10 h10).sel (L' := [(T10, _), (t8, .tup [.str y0]), (e7, .lst []), (py_, .lst (ys.map V.str))]) (.cons₂ _ (.cons _ (.cons₂ _ (.cons₂ _ (.cons _ (.cons _ (.cons₂ _ .slnil))))))))
      clear W9 W8 W7 W6 W5
      have thing : ∀ v ∈ (ys.map V.str ++ (gsOf (mEs es)).map V.str) ++ [V.str (Str.ofString "root"), .str (Str.ofString ""), .non, .int 7, .ref e7, .ref t8, .str (y0 ++ Str.ofString "q"), .str (cutS y0 none (some (-1)))], (∃ s, v = .str s) ∨ (v = .non ∨ v = .int 7) ∨ v = .ref e7 ∨ v = .ref t8 := fun v hv => by
        rcases List.mem_append.mp hv with hv | hv
        · rcases List.mem_append.mp hv with hv | hv
          · obtain ⟨s, _, rfl⟩ := List.mem_map.mp hv; exact .inl ⟨s, rfl⟩
          · obtain ⟨s, _, rfl⟩ := List.mem_map.mp hv; exact .inl ⟨s, rfl⟩
        · simp only [List.mem_cons, List.not_mem_nil, or_false] at hv
          rcases hv with rfl | rfl | rfl | rfl | rfl | rfl | rfl | rfl
          · exact .inl ⟨_, rfl⟩
          · exact .inl ⟨_, rfl⟩
          · exact .inr (.inl (.inl rfl))
          · exact .inr (.inl (.inr rfl))
          · exact .inr (.inr (.inl rfl))
          · exact .inr (.inr (.inr rfl))
          · exact .inl ⟨_, rfl⟩
          · exact .inl ⟨_, rfl⟩
      have W11 : Ow H [] H10 [(T10, .lst ((ys.map V.str ++ (gsOf (mEs es)).map V.str) ++ [V.str (Str.ofString "root"), .str (Str.ofString ""), .non, .int 7, .ref e7, .ref t8, .str (y0 ++ Str.ofString "q"), .str (cutS y0 none (some (-1)))])), (t8, .tup [.str y0]), (e7, .lst []), (py_, .lst (ys.map V.str))] := W10
      clear W10
      generalize (ys.map V.str ++ (gsOf (mEs es)).map V.str) ++ [V.str (Str.ofString "root"), .str (Str.ofString ""), .non, .int 7, .ref e7, .ref t8, .str (y0 ++ Str.ofString "q"), .str (cutS y0 none (some (-1)))] = things at thing W11
      refine ⟨_, rfl, T10, rfl, ⟨_, W11.sq 0 rfl⟩, fun D hD => ?_⟩
      refine lc_li (K := K) (a := T10) (xs := things) (fun pre H' => Ow H [] H' [(D, .lst []), (T10, .lst things), (t8, .tup [.str y0]), (e7, .lst []), (py_, .lst (ys.map V.str))]) (W11.new hD) (fun pre post H' _ W => W.sq 1 rfl) ?_ ?_
      · rintro pre v post H12 ex W12
        have hv := thing v (by rw [ex]; simp)
        have hp12 := hp.keep W12.keep
        obtain ⟨d, gg, dx, kvs, hP12⟩ := id hp12
        walk_at "rd"
        have both : ∃ r : Bool, (∀ Q' : VK, Q' (.bl r) H12 → spHas A.C_People K [.ref p, v] H12 Q' E0) ∧ InT K H12 v ys r := by
          rcases hv with ⟨s, rfl⟩ | hv | hv
          · refine ⟨decide (s ∈ ys), fun Q' h => ⟨p, _, _, _, rfl, hp12, .inl ⟨s, rfl, ?_⟩⟩, .inl ⟨rfl, in_strs s ys⟩⟩
            rw [keyM]
            exact h
          · refine ⟨false, fun Q' h => ⟨p, _, _, _, rfl, hp12, .inr ?_⟩, odd_non hv ys⟩
            rcases hv with rfl | rfl
            · exact ⟨_, TyX.base .non, ki_non_str, h⟩
            · exact ⟨_, TyX.base (.int _), ki_int_str, h⟩
          · rcases hv with rfl | rfl
            · exact ⟨false, fun Q' h => ⟨p, _, _, _, rfl, hp12, .inr ⟨_, TyX.base (.lst (W12.get 3 rfl)), ki_lst_str, h⟩⟩, odd_seq (.lst (W12.sq 3 rfl) .nil) rfl (.inl ⟨_, rfl⟩) asY⟩
            · exact ⟨false, fun Q' h => ⟨p, _, _, _, rfl, hp12, .inr ⟨_, TyX.base (.tup (W12.get 2 rfl)), ki_tup_str, h⟩⟩, odd_seq (.tup (W12.sqT 2 rfl) (.cons (.str y0) .nil)) (shaped_tup (ws := [y0]) (fun s hs => by rw [List.mem_singleton.mp hs]; exact a0)) (.inr ⟨_, rfl⟩) asY⟩
        obtain ⟨r, b1, b2⟩ := both
        refine ⟨p, dx, _, rfl, hP12.ob, ?_⟩
        refine b1 _ ⟨r, rfl, ?_⟩
        refine ⟨_, rfl, _, rfl, py_, ys, r, rfl, W12.sq 4 rfl, b2, ?_⟩
        refine ⟨rfl, _, rfl, ?_⟩
        rw [decide_eq_true rfl]
        exact W12
      · intro H12 W12
        refine ⟨Nat.zero_le _, NewS.mk fun z H13 n13 s13 k13 h13 => ?_⟩
        have W13 := W12.res (W12.call0 k13) n13 h13
        refine ⟨.list [], .list [], .lst (W13.sq 1 rfl) .nil, .lst (W13.sq 0 rfl) .nil, rfl, rfl, ?_⟩
        exact q _ W13.keep
end
end K23
namespace K23
open PySem PySem.Spec PyProof.Rows L2 FR TL
open C8 (pss_cut pe_gc)
/-! dict([(user, list(groups)) for user, groups in members.items()]) -/
abbrev Fs := List (Addr × Addr × Str × List Str)
structure CIx (HL : Hp) (D : Addr) (m : Mp) (i : Nat) (H' : Hp) (fs : Fs) : Prop where
  hm : fs.map (·.2.2) = m.take i
  kp : Keep [] HL H'
  fD : HL D = none
  hD : H' D = some (.lst (fs.map fun f => .ref f.1))
  ht : ∀ f ∈ fs, H' f.1 = some (.tup [.str f.2.2.1, .ref f.2.1])
  hl : ∀ f ∈ fs, H' f.2.1 = some (.lst (f.2.2.2.map V.str))
  ft : ∀ f ∈ fs, HL f.1 = none
  fl : ∀ f ∈ fs, HL f.2.1 = none
  nD : ∀ f ∈ fs, f.2.1 ≠ D
  nd : (fs.map (·.2.1)).Nodup
def CI (HL : Hp) (D : Addr) (m : Mp) (i : Nat) (H' : Hp) : Prop := ∃ fs, CIx HL D m i H' fs
theorem CI.zero {HL : Hp} {D : Addr} {m : Mp} (h : HL D = none) : CI HL D m 0 (upd HL D (.lst [])) :=
  ⟨[], rfl, keep_new h, h, upd_same, fun _ h => absurd h List.not_mem_nil, fun _ h => absurd h List.not_mem_nil, fun _ h => absurd h List.not_mem_nil, fun _ h => absurd h List.not_mem_nil, fun _ h => absurd h List.not_mem_nil, .nil⟩
theorem CI.step {HL H1 H1' H2 H3 : Hp} {D l t : Addr} {m : Mp} {i : Nat} {u : Str} {xs : List Str} (h : CI HL D m i H1) (hi : m[i]? = some (u, xs)) (k1 : Keep [] H1 H1') (nl : H1' l = none) (k2 : Keep [] H1' H2) (h2 : H2 l = some (.lst (xs.map V.str))) (nt : H2 t = none) (k3 : Keep [] H2 H3) (h3 : H3 t = some (.tup [.str u, .ref l])) :
    ∃ acc, H3 D = some (.lst acc) ∧ acc.length ≤ i ∧ CI HL D m (i + 1) (upd H3 D (.lst (acc ++ [.ref t]))) := by
  obtain ⟨fs, c⟩ := h
  have k13 : Keep [] H1 H3 := (k1.trans k2).trans k3
  have hD3 := k13 _ _ c.hD (by simp)
  have ntD : t ≠ D := ne_of h3 hD3 (fun z => by cases z)
  have nlD : l ≠ D := fun e => by rw [e, k1 _ _ c.hD (by simp)] at nl; cases nl
  refine ⟨_, hD3, ?_, fs ++ [(t, l, u, xs)], ?_, ?_, c.fD, ?_, fun f hf => ?_, fun f hf => ?_, fun f hf => ?_, fun f hf => ?_, fun f hf => ?_, ?_⟩
  · rw [List.length_map]
    have := congrArg List.length c.hm
    rw [List.length_map, List.length_take] at this
    omega
  · rw [List.map_append, c.hm, List.take_add_one, hi]
    rfl
  · exact keep_free (c.kp.trans k13) c.fD
  · rw [upd_same, List.map_append]
    rfl
  · rcases List.mem_append.mp hf with hf | hf
    · have := k13 _ _ (c.ht f hf) (by simp)
      rw [upd_ne (ne_of this hD3 (fun z => by cases z))]
      exact this
    · obtain rfl := List.mem_singleton.mp hf
      rw [upd_ne ntD]
      exact h3
  · rcases List.mem_append.mp hf with hf | hf
    · rw [upd_ne (c.nD f hf)]
      exact k13 _ _ (c.hl f hf) (by simp)
    · obtain rfl := List.mem_singleton.mp hf
      rw [upd_ne nlD]
      exact k3 _ _ h2 (by simp)
  · rcases List.mem_append.mp hf with hf | hf
    · exact c.ft f hf
    · obtain rfl := List.mem_singleton.mp hf
      exact ((c.kp.trans k1).trans k2).free nt
  · rcases List.mem_append.mp hf with hf | hf
    · exact c.fl f hf
    · obtain rfl := List.mem_singleton.mp hf
      exact (c.kp.trans k1).free nl
  · rcases List.mem_append.mp hf with hf | hf
    · exact c.nD f hf
    · obtain rfl := List.mem_singleton.mp hf
      exact nlD
  · rw [List.map_append, List.nodup_append]
    refine ⟨c.nd, by simp, fun a ha b hb e => ?_⟩
    obtain ⟨f, hf, rfl⟩ := List.mem_map.mp ha
    obtain rfl : b = l := by simpa using hb
    have := k1 _ _ (c.hl f hf) (by simp)
    rw [e, nl] at this
    cases this
structure Cp (H H' : Hp) (c : Addr) (es : Es) : Prop where
  kp : Keep [] H H'
  hc : H c = none
  ml : ML H' c es
  fr : ∀ e ∈ es, H e.1 = none
  nd : (es.map (·.1)).Nodup
theorem merge_nd : ∀ (es : Es) (acc : Es), ((acc ++ es).map (·.2.1)).Nodup → mergeK (dEs acc) (dEs es) = dEs (acc ++ es)
  | [], acc, _ => by rw [List.append_nil]; rfl
  | e :: r, acc, nd => by
    have h1 : putE acc e.1 e.2.1 e.2.2 = acc ++ [e] := by
      unfold putE
      rw [if_neg]
      rw [List.any_eq_true]
      rintro ⟨x, hx, c⟩
      rw [List.map_append, List.nodup_append] at nd
      exact nd.2.2 _ (List.mem_map_of_mem hx) _ (List.mem_map_of_mem List.mem_cons_self) (of_decide_eq_true c)
    show mergeK (putK (dEs acc) (Sum.inr e.2.1) (.ref e.1)) (dEs r) = _
    rw [putE_d (xs := e.2.2), h1, merge_nd r (acc ++ [e]) (by simpa using nd)]
    simp
theorem CI.done {K : PySem.W.Frag} {H H' : Hp} {a D : Addr} {m : Mp} {u : HO} {od : Obj} (ha : H a = some u) (h : CI (upd H a (.frz od u)) D m m.length H') (nd : (m.map (·.1)).Nodup) :
    ∃ (ps : List Addr) (kvs : List (L2.Key × V)), SqL K (upd H' a u) D (ps.map V.ref) ∧ Paired (fun p kv => SqT K (upd H' a u) p [kV kv.1, kv.2]) ps kvs ∧
      ∀ c, (upd H' a u) c = none → ∃ es, mergeK [] kvs = dEs es ∧ mEs es = m ∧ Cp H (upd (upd H' a u) c (.dK (mergeK [] kvs))) c es := by
  obtain ⟨fs, c⟩ := h
  have nDa : D ≠ a := fun e => by have := c.fD; rw [e, upd_same] at this; cases this
  have nta : ∀ f ∈ fs, f.1 ≠ a := fun f hf e => by have := c.ft f hf; rw [e, upd_same] at this; cases this
  have nla : ∀ f ∈ fs, f.2.1 ≠ a := fun f hf e => by have := c.fl f hf; rw [e, upd_same] at this; cases this
  have kk : Keep [] H (upd H' a u) := keep_lock ha c.kp
  have hm : fs.map (·.2.2) = m := by rw [c.hm, List.take_length]
  refine ⟨fs.map (·.1), dEs (fs.map (·.2)), .inl (.inl ?_), ?_, fun d nd' => ⟨fs.map (·.2), ?_, ?_, ?_⟩⟩
  · rw [upd_ne nDa, c.hD, List.map_map]
    rfl
  · have ht := c.ht
    clear c hm nla
    unfold dEs
    rw [List.map_map]
    induction fs with
    | nil => exact .nil
    | cons f r ih => exact .cons (.inl (.inl (by rw [upd_ne (nta f List.mem_cons_self)]; exact ht f List.mem_cons_self))) (ih (fun g hg => nta g (List.mem_cons_of_mem _ hg)) fun g hg => ht g (List.mem_cons_of_mem _ hg))
  · refine merge_nd (fs.map (·.2)) [] ?_
    rw [List.nil_append, List.map_map]
    rw [← hm, List.map_map] at nd
    exact nd
  · unfold mEs
    rw [List.map_map]
    exact hm
  · have em : mergeK [] (dEs (fs.map (·.2))) = dEs (fs.map (·.2)) := by
      refine merge_nd (fs.map (·.2)) [] ?_
      rw [List.nil_append, List.map_map]
      rw [← hm, List.map_map] at nd
      exact nd
    rw [em]
    refine ⟨kk.trans (keep_new nd'), kk.free nd', ⟨upd_same, fun e he => ?_⟩, fun e he => ?_, ?_⟩
    · obtain ⟨f, hf, rfl⟩ := List.mem_map.mp he
      have h1 : (upd H' a u) f.2.1 = some (.lst (f.2.2.2.map V.str)) := by rw [upd_ne (nla f hf)]; exact c.hl f hf
      rw [upd_ne (ne_of_none h1 nd')]
      exact h1
    · obtain ⟨f, hf, rfl⟩ := List.mem_map.mp he
      have := c.fl f hf
      rwa [upd_ne (nla f hf)] at this
    · rw [List.map_map]
      exact c.nd
end K23
namespace K23
open PySem PySem.Spec PyProof.Rows L2 FR TL
open C8 (pss_cut pe_gc)
theorem nd_of2 {es : Es} (nd : ((mEs es).map (·.1)).Nodup) {x y : Addr × Str × List Str} (hx : x ∈ es) (hy : y ∈ es) (h : x.2.1 = y.2.1) : x = y := by
  induction es with
  | nil => exact absurd hx List.not_mem_nil
  | cons e r ih =>
    unfold mEs at nd
    rw [List.map_cons, List.map_cons, List.nodup_cons] at nd
    have out : ∀ z ∈ r, z.2.1 ≠ e.2.1 := fun z hz c => nd.1 (List.mem_map.mpr ⟨z.2, List.mem_map_of_mem hz, c⟩)
    rcases List.mem_cons.mp hx with rfl | hx2
    · rcases List.mem_cons.mp hy with rfl | hy2
      · rfl
      · exact absurd h.symm (out y hy2)
    · rcases List.mem_cons.mp hy with rfl | hy2
      · exact absurd h (out x hx2)
      · exact ih nd.2 hx2 hy2
def repE (es : Es) (q : Addr) (u : Str) (xs : List Str) : Es := es.map fun e => if e.2.1 = u then (q, u, xs) else e
theorem rep_mem {es : Es} {q : Addr} {u : Str} {xs : List Str} {e : Addr × Str × List Str} (h : e ∈ repE es q u xs) : (e ∈ es ∧ e.2.1 ≠ u) ∨ e = (q, u, xs) := by
  obtain ⟨x, hx, rfl⟩ := List.mem_map.mp h
  split
  · exact .inr rfl
  · rename_i c
    exact .inl ⟨hx, c⟩
theorem rep_keys (es : Es) (q : Addr) (u : Str) (xs : List Str) : (mEs (repE es q u xs)).map (·.1) = (mEs es).map (·.1) := by
  unfold mEs repE
  rw [List.map_map, List.map_map, List.map_map]
  refine List.map_congr_left fun e _ => ?_
  by_cases c : e.2.1 = u
  · simp [c]
  · simp [c]
theorem rep_mk {es : Es} (gd : Mk (mEs es)) {q : Addr} {u : Str} {xs ys : List Str} {l : Addr} (hu : (l, u, ys) ∈ es) (sub : ∀ g ∈ xs, g ∈ ys) (nd : xs.Nodup) (l1 : 1 ≤ xs.length) : Mk (mEs (repE es q u xs)) := by
  have hum : (u, ys) ∈ mEs es := List.mem_map.mpr ⟨_, hu, rfl⟩
  have g := gd.gs _ hum
  have lx : xs.length ≤ 6 := Nat.le_trans (nd.length_le_of_subset sub) g.2.2.2
  have mem : ∀ e ∈ mEs (repE es q u xs), e ∈ mEs es ∨ e = (u, xs) := fun e he => by
    obtain ⟨x, hx, rfl⟩ := List.mem_map.mp he
    rcases rep_mem hx with ⟨h, _⟩ | rfl
    · exact .inl (List.mem_map_of_mem h)
    · exact .inr rfl
  refine ⟨by rw [rep_keys]; exact gd.nd, fun e he => ?_, fun e he => ?_, ?_, ?_, ?_⟩
  · rcases mem e he with h | rfl
    · exact gd.us e h
    · show Us u
      exact gd.us _ hum
  · rcases mem e he with h | rfl
    · exact gd.gs e h
    · exact ⟨fun x hx => g.1 x (sub x hx), nd, l1, lx⟩
  · have := gd.l1
    rw [mEs_len] at this ⊢
    unfold repE
    rw [List.length_map]
    exact this
  · have := gd.l6
    rw [mEs_len] at this ⊢
    unfold repE
    rw [List.length_map]
    exact this
  · obtain ⟨G, g1, g2⟩ := gd.few
    refine ⟨G, g1, fun e he x hx => ?_⟩
    rcases mem e he with h | rfl
    · exact g2 e h x hx
    · exact g2 _ hum x (sub x hx)
theorem rep_d {es : Es} (nd : ((mEs es).map (·.1)).Nodup) {l : Addr} {u : Str} {ys xs : List Str} (hu : (l, u, ys) ∈ es) : dEs (repE es l u xs) = dEs es := by
  unfold dEs repE
  rw [List.map_map]
  refine List.map_congr_left fun e he => ?_
  by_cases c : e.2.1 = u
  · have : e = (l, u, ys) := by
      have h1 : e.2.1 = (l, u, ys).2.1 := c
      exact nd_of2 nd he hu h1
    subst this
    simp
  · simp [c]
theorem valV_es {es : Es} (nd : ((mEs es).map (·.1)).Nodup) {l : Addr} {u : Str} {xs : List Str} (h : (l, u, xs) ∈ es) : valV (dEs es) (Sum.inr u) = some (.ref l) := by
  induction es with
  | nil => exact absurd h List.not_mem_nil
  | cons e r ih =>
    rcases List.mem_cons.mp h with rfl | h2
    · exact valV_pos (p := (Sum.inr u, .ref l)) rfl
    · unfold mEs at nd
      rw [List.map_cons, List.map_cons, List.nodup_cons] at nd
      have ne : e.2.1 ≠ u := fun c => nd.1 (List.mem_map.mpr ⟨(u, xs), List.mem_map.mpr ⟨_, h2, rfl⟩, c.symm⟩)
      have := ih nd.2 h2
      unfold dEs at this ⊢
      rw [List.map_cons, valV_neg (p := (Sum.inr e.2.1, .ref e.1)) (fun z => ne (Sum.inr.inj z))]
      exact this
theorem ml_mut {H : Hp} {c l : Addr} {es : Es} {u : Str} {xs ys : List Str} (h : ML H c es) (nda : (es.map (·.1)).Nodup) (nd : ((mEs es).map (·.1)).Nodup) (hu : (l, u, xs) ∈ es) : ML (upd H l (.lst (ys.map V.str))) c (repE es l u ys) := by
  have ncl : c ≠ l := ne_of h.hd (h.hl _ hu) (fun z => by cases z)
  refine ⟨by rw [upd_ne ncl, rep_d nd hu]; exact h.hd, fun e he => ?_⟩
  rcases rep_mem he with ⟨h1, h2⟩ | rfl
  · have nel : e.1 ≠ l := fun z => by
      obtain ⟨i, hi⟩ := List.mem_iff_getElem?.mp hu
      have := nd_of nda hi h1 z
      rw [this] at h2
      exact h2 rfl
    rw [upd_ne nel]
    exact h.hl e h1
  · exact upd_same
theorem ml_mut2 {H H' : Hp} {b c l : Addr} {es : Es} {u : Str} {xs ys : List Str} (h : ML H c es) (nda : (es.map (·.1)).Nodup) (nd : ((mEs es).map (·.1)).Nodup) (hu : (l, u, xs) ∈ es) (k : ∀ x o, H x = some o → x ≠ l → x ≠ b → H' x = some o) (hl : H' l = some (.lst (ys.map V.str))) (ncb : c ≠ b) (neb : ∀ e ∈ es, e.1 ≠ b) : ML H' c (repE es l u ys) := by
  have ncl : c ≠ l := ne_of h.hd (h.hl _ hu) (fun z => by cases z)
  refine ⟨by rw [rep_d nd hu]; exact k _ _ h.hd ncl ncb, fun e he => ?_⟩
  rcases rep_mem he with ⟨h1, h2⟩ | rfl
  · have nel : e.1 ≠ l := fun z => by
      obtain ⟨i, hi⟩ := List.mem_iff_getElem?.mp hu
      have := nd_of nda hi h1 z
      rw [this] at h2
      exact h2 rfl
    exact k _ _ (h.hl e h1) nel (neb e h1)
  · exact hl
theorem ix_at {n i : Nat} (h : i < n) : ixN n (i : Int) = some i := by
  unfold ixN
  rw [if_pos (by omega), if_pos (by omega)]
  simp
theorem put_rep {es : Es} {l q : Addr} {u : Str} {xs ys : List Str} (hu : (l, u, xs) ∈ es) : putE es q u ys = repE es q u ys := by
  unfold putE
  rw [if_pos (List.any_eq_true.mpr ⟨_, hu, decide_eq_true rfl⟩)]
  rfl
theorem drop_es (es : Es) (u : Str) : dropK (dEs es) (Sum.inr u) = dEs (es.filter fun e => decide (e.2.1 ≠ u)) := by
  unfold dropK dEs
  rw [List.filter_map]
  congr 1
  refine List.filter_congr fun e _ => ?_
  by_cases c : e.2.1 = u
  · simp [c]
  · simp [c]
theorem drop_mk {es : Es} (gd : Mk (mEs es)) (l2 : 2 ≤ es.length) (u : Str) : Mk (mEs (es.filter fun e => decide (e.2.1 ≠ u))) := by
  have mem : ∀ e ∈ mEs (es.filter fun e => decide (e.2.1 ≠ u)), e ∈ mEs es := fun e he => by
    obtain ⟨x, hx, rfl⟩ := List.mem_map.mp he
    exact List.mem_map_of_mem (List.mem_filter.mp hx).1
  refine ⟨?_, fun e he => gd.us e (mem e he), fun e he => gd.gs e (mem e he), ?_, ?_, ?_⟩
  · exact gd.nd.sublist ((List.filter_sublist.map _).map _)
  · rw [mEs_len]
    have nd := gd.nd
    match es, l2, nd with
    | a :: b :: r, _, nd =>
      unfold mEs at nd
      simp only [List.map_cons, List.nodup_cons, List.mem_cons, not_or] at nd
      have : ∃ e, e ∈ (a :: b :: r).filter fun e => decide (e.2.1 ≠ u) := by
        by_cases c : a.2.1 = u
        · exact ⟨b, List.mem_filter.mpr ⟨by simp, decide_eq_true fun z => nd.1.1 (c.trans z.symm)⟩⟩
        · exact ⟨a, List.mem_filter.mpr ⟨by simp, decide_eq_true c⟩⟩
      obtain ⟨e, he⟩ := this
      exact List.length_pos_of_mem he
  · have := gd.l6
    rw [mEs_len] at this ⊢
    exact Nat.le_trans (List.length_filter_le _ _) this
  · obtain ⟨G, g1, g2⟩ := gd.few
    exact ⟨G, g1, fun e he => g2 e (mem e he)⟩
section
variable {P : Program} {w : World} {K : PySem.W.Frag} {mg : Str → Option Value} {base : Heap} {A : Ads}
set_option pp.maxSteps 120
def spChanged : Sp := fun vs H Q _ => ∃ (b a : Addr) (es : Es) (n : Nat) (x y z : Int), vs = [.ref b, .ref a] ∧ H b = some (bagO x y z) ∧ BagOk n x y z ∧ n < 800000 ∧ ML H a es ∧ Mk (mEs es) ∧
  ∀ (es' : Es) (c : Addr) (x' y' z' : Int) (H' : Hp), Mk (mEs es') → BagOk (n + 10) x' y' z' → Keep [b] H H' → H' b = some (bagO x' y' z') → ML H' c es' → Q (.ref c) H'
theorem ok_changed (T : Txt K mg A) : FnOk P w K mg base CX0 2 A.f_changed A.d_changed ["_law_bag_here", "_law_members_one"] spChanged := by
  refine T.F_changed.ok sc_changed (fun vs H Q E h => ?_) (fun cdv A_ outer s_ H vs Q E hr h => ?_)
  · obtain ⟨b, a, es, n, x, y, z, rfl, _⟩ := h
    rfl
  · obtain ⟨b, a, es, n, x, y, z, rfl, hb, ok, hn, hm, gd, q⟩ := h
    refine ⟨_, (pss_cons (ps_set (i := 2) sc_changed.nd rfl (.inl rfl) (pe_callTy (call_dictP rfl) (by rfl) T.b_dict (by decide +kernel) (pa_cons (pe_lock (pe_lc (own := [("_law_user_one", 3), ("_law_groups", 8)]) (g := gTup K 2 (gCons (gName 3) (gCons (gName 8) gNil))) rfl sc_changed.nd (pi_items (pv 1)) (blkOk_by (own := [("_law_user_one", 3), ("_law_groups", 8)]) (N := N_changed) (sc := defScope s_changed) (by decide +kernel)) (fun _ _ _ _ _ => (pg_tup rfl (pgs_cons (pg_name (i := 3) sc_changed.nd rfl (.inl rfl)) (pgs_cons (pg_name (i := 8) sc_changed.nd rfl (.inl rfl)) pgs_nil)))) (fun _ _ _ _ _ => pts_nil) (fun _ _ _ _ _ => (pe_tupN (pa_cons (pv 3) (pa_cons (pe_callTy (call_lofNK (K := K) rfl) (by rfl) T.b_list (by decide +kernel) (pa_cons (pv 8) pa_nil)) pa_nil)))))) pa_nil)))
  (pss_cons (ps_set (i := 3) sc_changed.nd rfl (.inl rfl) (pe_ix ix_list (pe_callTy (call_listD rfl) (by rfl) T.b_list (by decide +kernel) (pa_cons (pv 2) pa_nil)) (pe_call (ok_take T) (hr.mono (by decide)) (by rfl) T.g_take T.F_take.kp T.B_take .nil pass0 (pa_cons (pv 0) (pa_cons (pe_callB call_lenD (by rfl) T.b_len PySem.boot_len (pa_cons (pv 2) pa_nil)) pa_nil))) (fun _ _ => rfl)))
  (pss_cons (ps_par (i := 4) (j := 5) (by rfl) sc_changed.nd rfl rfl (by decide) rfl rfl (pa_cons (pe_call (ok_take T) (hr.mono (by decide)) (by rfl) T.g_take T.F_take.kp T.B_take .nil pass0 (pa_cons (pv 0) (pa_cons pe_int pa_nil))) (pa_cons (pe_dget (hu_of hr) (pv 2) (pv 3) (fun _ _ => rfl)) pa_nil)) (by rfl))
  (pss_cons (ps_if (pt_cmpR op_eq (pv 4) pe_int (nomark _)) (pss_one (ps_expr (pe_bm0 PySem.F.plainAttrs_list PySem.F.slot_list_reverse PySem.F.type_list_reverse mt_reverse (pv 5)))) pss_nil)
  (pss_cons (ps_if (pt_cmpR op_eq (pv 4) pe_int (nomark _)) (pss_cons (ps_par (i := 6) (j := 7) (by rfl) sc_changed.nd rfl rfl (by decide) rfl rfl (pa_cons (pe_call (ok_take T) (hr.mono (by decide)) (by rfl) T.g_take T.F_take.kp T.B_take .nil pass0 (pa_cons (pv 0) (pa_cons (pe_callB call_len_seq (by rfl) T.b_len PySem.boot_len (pa_cons (pv 5) pa_nil)) pa_nil))) (pa_cons (pe_call (ok_take T) (hr.mono (by decide)) (by rfl) T.g_take T.F_take.kp T.B_take .nil pass0 (pa_cons (pv 0) (pa_cons (pe_callB call_len_seq (by rfl) T.b_len PySem.boot_len (pa_cons (pv 5) pa_nil)) pa_nil))) pa_nil)) (by rfl))
  (pss_one (ps_asg (pe_tupN (pa_cons (pe_ix ix_list (pv 5) (pv 7) (fun _ _ => rfl)) (pa_cons (pe_ix ix_list (pv 5) (pv 6) (fun _ _ => rfl)) pa_nil))) (pg_tup rfl (pgs_cons (pg_sub (pv 5) (pv 6) set_listN) (pgs_cons (pg_sub (pv 5) (pv 7) set_listN) pgs_nil)))))) pss_nil)
  (pss_cons (ps_if (PW.pt (pw_and (pt_cmpR op_eq (pv 4) pe_int (nomark _)) (pw_and1 (pt_cmpR op_gt (pe_callB call_lenD (by rfl) T.b_len PySem.boot_len (pa_cons (pv 2) pa_nil)) pe_int (nomark _))))) (pss_one (ps_expr (pe_dpop1 (pv 2) (pv 3) ⟨by rfl, by rfl, by rfl, by rfl⟩))) pss_nil)
  (pss_cons (ps_if (pt_cmpR op_eq (pv 4) pe_int (nomark _)) (pss_one (ps_asg (pe_slice sl_listN (pe_dget (hu_of hr) (pv 2) (pv 3) (fun _ _ => rfl)) po_none (po_some pe_int)) (pg_sub (pv 2) (pv 3) (set_dict (hu_of hr))))) pss_nil)
  (pss_one (ps_ret (pv 2)))))))))), ?_⟩
    refine ⟨a, _, hm.hd, trivial, fun od => ?_⟩
    refine ⟨_, rfl, a, od, _, rfl, upd_same, fun D hD => ?_⟩
    refine lc_it walk_items (fun i H' => CI (upd H a (.frz od (.dK (dEs es)))) D (mEs es) i H') (CI.zero hD) (fun i H' _ h => ?_) (fun i v H4 H5 hi h4 y4 => ?_) (fun H4 h4 => ?_)
    · obtain ⟨fs, c⟩ := h
      exact c.kp _ _ upd_same (by simp)
    · obtain ⟨Tp, x1, x2, rfl, nT, rfl, e1, e2⟩ := y4
      have hl : i < es.length := by rw [dEs_len] at hi; exact hi
      have hi2 : es[i]? = some es[i] := List.getElem?_eq_getElem hl
      have hd1 : (dEs es)[i]? = some (Sum.inr es[i].2.1, .ref es[i].1) := by unfold dEs; rw [List.getElem?_map, hi2]; rfl
      have hm1 : (mEs es)[i]? = some es[i].2 := by unfold mEs; rw [List.getElem?_map, hi2]; rfl
      have e1 : (dEs es)[i]?.map (fun kv => kV kv.1) = some x1 := e1
      have e2 : (dEs es)[i]?.map Prod.snd = some x2 := e2
      rw [hd1] at e1 e2
      obtain rfl : V.str es[i].2.1 = x1 := Option.some.inj e1
      obtain rfl : V.ref es[i].1 = x2 := Option.some.inj e2
      have hem : es[i] ∈ es := List.getElem_mem hl
      have hle := hm.hl _ hem
      generalize es[i] = e at hi2 hm1 hem hle nT ⊢
      have nea : e.1 ≠ a := ne_of hle hm.hd (fun z => by cases z)
      have k4 : Keep [] (upd H a (.frz od (.dK (dEs es)))) H4 := by
        obtain ⟨fs, c⟩ := h4
        exact c.kp
      have he4 : H4 e.1 = some (.lst (e.2.2.map V.str)) := k4 _ _ (by rw [upd_ne nea]; exact hle) (by simp)
      have k5 : Keep [] H4 (upd H4 Tp (.tup [.str e.2.1, .ref e.1])) := keep_new nT
      refine ⟨Tp, _, rfl, .inl (.inl upd_same), rfl, ?_⟩
      walk_at "rd"
      refine ⟨e.1, _, rfl, .inl (.inl (.inl (k5 _ _ he4 (by simp)))), NewO.mk fun l6 H6 n6 k6 h6 => ?_⟩
      refine ⟨(show 2 ≤ sizeLine by decide), NewO.mk fun t7 H7 n7 k7 h7 => ?_⟩
      obtain ⟨acc, a1, a2, a3⟩ := h4.step hm1 k5 n6 k6 h6 n7 k7 h7
      have := gd.l6
      rw [mEs_len] at this
      exact ⟨acc, a1, size_ok (by omega), a3⟩
    · rw [dEs_len, ← mEs_len] at h4
      refine ⟨?_, ?_⟩
      · obtain ⟨fs, c⟩ := h4
        exact c.kp _ _ upd_same (by simp)
      obtain ⟨ps, kvs, s1, s2, s3⟩ := CI.done (K := K) hm.hd h4 gd.nd
      refine ⟨D, ps, kvs, rfl, s1, s2, fun c nc => ?_⟩
      obtain ⟨es2, _, em2, cp⟩ := s3 c nc
      generalize upd (upd H4 a (.dK (dEs es))) c (.dK (mergeK [] kvs)) = H6 at cp ⊢
      clear s1 s2 s3 h4 nc
      rw [← em2] at gd
      clear em2
      have l1 := gd.l1
      have l6 := gd.l6
      rw [mEs_len] at l1 l6
      have hb6 := cp.kp _ _ hb (by simp)
      have nbc : b ≠ c := ne_of hb6 cp.ml.hd (fun z => by cases z)
      refine ⟨_, rfl, c, _, rfl, .inl cp.ml.hd, fun p7 n7 => ?_⟩
      have W7 : Ow H6 [b] (upd H6 p7 (.lst ((dEs es2).map fun kv => kV kv.1))) [(p7, .lst ((dEs es2).map fun kv => kV kv.1)), (b, bagO x y z)] := (Ow.start1 hb6).new n7
      generalize upd H6 p7 (.lst ((dEs es2).map fun kv => kV kv.1)) = H7 at W7 ⊢
      refine ⟨_, rfl, _, rfl, c, _, rfl, W7.keep _ _ cp.ml.hd (by simpa using Ne.symm nbc), ?_⟩
      refine ⟨b, _, _, _, _, _, rfl, W7.get 1 rfl, ok, by omega, by rw [dEs_len]; omega, by rw [dEs_len]; omega, fun d x8 y8 z8 H8 d0 d1 ok8 k8 hb8 => ?_⟩
      have W8 := W7.any1 1 rfl k8 hb8
      obtain ⟨j, rfl⟩ := Int.eq_ofNat_of_zero_le d0
      rw [dEs_len] at d1
      have jl : j < es2.length := by omega
      obtain ⟨⟨l, u, xs⟩, hj⟩ : ∃ e, es2[j]? = some e := ⟨_, List.getElem?_eq_getElem jl⟩
      have hjm : (l, u, xs) ∈ es2 := List.mem_of_getElem? hj
      refine ⟨p7, _, _, .str u, rfl, rfl, W8.sq 0 rfl, atI_nat (by unfold dEs; rw [List.map_map, List.getElem?_map, hj]; rfl), ?_⟩
      have W9 := W8.tail
      clear W8 W7 hj jl d0 d1
      walk_at "rd"
      walk_at "take"
      rename_i d10 x10 y10 z10 H10 d100 d101 ok10 k10 hb10 W10
      have ml : ML H10 c es2 := ⟨W10.keep _ _ cp.ml.hd (by simpa using Ne.symm nbc), fun e he => W10.keep _ _ (cp.ml.hl e he) (by simpa using ne_of (cp.ml.hl e he) hb6 (Ne.symm bag_ne))⟩
      have hb10 := W10.get 0 rfl
      have kH : Keep [b] H H10 := fun a o ho na => W10.keep _ _ (cp.kp a o ho (by simp)) na
      have nfr : ∀ a o, H a = some o → a ≠ l := fun a o ho e => by rw [e, cp.fr _ hjm] at ho; cases ho
      have ncr : ∀ a o, H a = some o → a ≠ c := fun a o ho e => by rw [e, cp.hc] at ho; cases ho
      have hl : H10 l = some (.lst (xs.map V.str)) := ml.hl _ hjm
      have nbl : b ≠ l := ne_of hb10 hl bag_ne
      have ncl : c ≠ l := ne_of ml.hd hl (fun z => by cases z)
      have vl := valV_es gd.nd hjm
      have gx : Uss xs ∧ xs.Nodup ∧ 1 ≤ xs.length ∧ xs.length ≤ 6 := gd.gs _ (List.mem_map.mpr ⟨_, hjm, rfl⟩ : (u, xs) ∈ mEs es2)
      clear W10 W9 ok8 k8 hb8 k10 hb6 ok
      refine ⟨_, rfl, _, rfl, c, _, rfl, .inl ⟨_, Sum.inr u, .inl ml.hd, rfl, vl.symm⟩, ?_⟩
      refine ⟨_, _, rfl, ?_⟩
      have d5 : d10 = 0 ∨ d10 = 1 ∨ d10 = 2 ∨ d10 = 3 ∨ d10 = 4 := by omega
      have no : ∀ i j : Int, i ≠ j → decide (V.int i = V.int j) = false := fun i j h => decide_eq_false fun e => h (V.int.inj e)
      rcases d5 with rfl | rfl | rfl | rfl | rfl
      · -- 0
        refine ⟨_, rfl, rfl, _, rfl, ?_⟩
        refine ifT (decide_eq_true rfl) ?_
        refine ⟨_, rfl, .inl ⟨rfl, _, .inl (.inl hl)⟩, l, _, rfl, rfl, hl, ?_⟩
        rw [← List.map_reverse]
        have ml2 := ml_mut (ys := xs.reverse) ml cp.nd gd.nd hjm
        have mk2 := rep_mk gd (q := l) hjm (fun g hg => List.mem_reverse.mp hg) ((List.reverse_perm xs).nodup_iff.mpr gx.2.1) (by rw [List.length_reverse]; exact gx.2.2.1)
        refine ⟨_, rfl, rfl, _, rfl, ?_⟩
        refine ifF (no _ _ (by decide)) ?_
        refine ⟨_, rfl, rfl, _, rfl, ?_⟩
        refine ifF (no _ _ (by decide)) ?_
        refine ifF rfl ?_
        refine ⟨_, rfl, rfl, _, rfl, ?_⟩
        refine ifF (no _ _ (by decide)) ?_
        refine ⟨_, rfl, ?_⟩
        exact q _ c x10 y10 z10 _ mk2 (ok10.mono (by omega)) (fun a o ho na => by rw [upd_ne (nfr a o ho)]; exact kH a o ho na) (by rw [upd_ne nbl]; exact hb10) ml2
      · -- 1
        refine ⟨_, rfl, rfl, _, rfl, ?_⟩
        refine ifF (no _ _ (by decide)) ?_
        refine ⟨_, rfl, rfl, _, rfl, ?_⟩
        refine ifF (no _ _ (by decide)) ?_
        refine ⟨_, rfl, rfl, _, rfl, ?_⟩
        refine ifT (decide_eq_true rfl) ?_
        refine ⟨_, rfl, c, _, rfl, ml.hd, ?_⟩
        refine ⟨_, _, rfl, rfl, _, rfl, ?_⟩
        refine ifD (fun c1 => ?_) (fun c1 => ?_)
        · rw [dEs_len] at c1
          refine ⟨_, rfl, c, rfl, .inl ⟨_, .inl ml.hd⟩, _, rfl, _, Sum.inr u, _, ml.hd, rfl, vl, ?_⟩
          rw [drop_es]
          refine ⟨_, rfl, rfl, _, rfl, ?_⟩
          refine ifF (no _ _ (by decide)) ?_
          refine ⟨_, rfl, ?_⟩
          exact q _ c x10 y10 z10 _ (drop_mk gd (by omega) u) (ok10.mono (by omega)) (fun a o ho na => by rw [upd_ne (ncr a o ho)]; exact kH a o ho na) (by rw [upd_ne nbc]; exact hb10)
            ⟨upd_same, fun e he => by rw [upd_ne (ne_of (ml.hl e (List.mem_filter.mp he).1) ml.hd (fun z => by cases z))]; exact ml.hl e (List.mem_filter.mp he).1⟩
        · refine ⟨_, rfl, rfl, _, rfl, ?_⟩
          refine ifF (no _ _ (by decide)) ?_
          refine ⟨_, rfl, ?_⟩
          exact q _ c x10 y10 z10 _ gd (ok10.mono (by omega)) kH hb10 ml
      · -- 2
        refine ⟨_, rfl, rfl, _, rfl, ?_⟩
        refine ifF (no _ _ (by decide)) ?_
        refine ⟨_, rfl, rfl, _, rfl, ?_⟩
        refine ifF (no _ _ (by decide)) ?_
        refine ⟨_, rfl, rfl, _, rfl, ?_⟩
        refine ifF (no _ _ (by decide)) ?_
        refine ifF rfl ?_
        refine ⟨_, rfl, rfl, _, rfl, ?_⟩
        refine ifT (decide_eq_true rfl) ?_
        refine ⟨_, rfl, _, rfl, c, _, rfl, .inl ⟨_, Sum.inr u, .inl ml.hd, rfl, vl.symm⟩, ?_⟩
        refine ⟨_, rfl, l, _, rfl, .inl (.inl hl), NewO.mk fun p11 H11 n11 k11 h11 => ?_⟩
        rw [show (1 : Int) = ((1 : Nat) : Int) by rfl, cutV_to, ← List.map_take] at h11
        have hd11 := k11 _ _ ml.hd (by simp)
        refine ⟨_, rfl, _, rfl, c, _, rfl, .inl ⟨_, Sum.inr u, hd11, rfl, size_ok (by rw [dEs_len]; omega), rfl⟩, ?_⟩
        rw [putE_d (xs := xs.take 1), put_rep hjm]
        have mk2 := rep_mk gd (q := p11) hjm (fun g hg => List.mem_of_mem_take hg) (gx.2.1.sublist (List.take_sublist 1 xs)) (by rw [List.length_take]; have := gx.2.2.1; omega)
        have nc : p11 ≠ c := fun e => by rw [e, ml.hd] at n11; cases n11
        refine ⟨_, rfl, ?_⟩
        refine q _ c x10 y10 z10 _ mk2 (ok10.mono (by omega)) (fun a o ho na => ?_) (by rw [upd_ne nbc]; exact k11 _ _ hb10 (by simp)) ⟨upd_same, fun e he => ?_⟩
        · rw [upd_ne (ncr a o ho)]
          exact k11 _ _ (kH a o ho na) (by simp)
        · rcases rep_mem he with ⟨h1, h2⟩ | rfl
          · rw [upd_ne (ne_of (ml.hl e h1) ml.hd (fun z => by cases z))]
            exact k11 _ _ (ml.hl e h1) (by simp)
          · rw [upd_ne nc]
            exact h11
      · -- 3
        refine ⟨_, rfl, rfl, _, rfl, ?_⟩
        refine ifF (no _ _ (by decide)) ?_
        refine ⟨_, rfl, rfl, _, rfl, ?_⟩
        refine ifT (decide_eq_true rfl) ?_
        have lx : 1 ≤ xs.length ∧ xs.length ≤ 6 := gx.2.2
        refine ⟨_, rfl, _, rfl, l, _, rfl, .inl (.inl (.inl hl)), ?_⟩
        refine ⟨b, _, _, _, _, _, rfl, hb10, ok10, by omega, by rw [List.length_map]; omega, by rw [List.length_map]; omega, fun d x11 y11 z11 H11 d0 d1 ok11 k11 hb11 => ?_⟩
        obtain ⟨i, rfl⟩ := Int.eq_ofNat_of_zero_le d0
        rw [List.length_map] at d1
        have hl11 := k11 _ _ hl (by simpa using Ne.symm nbl)
        refine ⟨_, rfl, _, rfl, l, _, rfl, .inl (.inl (.inl hl11)), ?_⟩
        refine ⟨b, _, _, _, _, _, rfl, hb11, ok11, by omega, by rw [List.length_map]; omega, by rw [List.length_map]; omega, fun d x12 y12 z12 H12 d2 d3 ok12 k12 hb12 => ?_⟩
        obtain ⟨k, rfl⟩ := Int.eq_ofNat_of_zero_le d2
        rw [List.length_map] at d3
        have hl12 := k12 _ _ hl11 (by simpa using Ne.symm nbl)
        have il : i < xs.length := by omega
        have kl : k < xs.length := by omega
        refine ⟨_, _, rfl, ?_⟩
        refine ⟨_, rfl, _, rfl, l, _, _, .str xs[k], rfl, rfl, .inl (.inl hl12), atI_nat (by rw [List.getElem?_map, List.getElem?_eq_getElem kl]; rfl), ?_⟩
        refine ⟨_, rfl, _, rfl, l, _, _, .str xs[i], rfl, rfl, .inl (.inl hl12), atI_nat (by rw [List.getElem?_map, List.getElem?_eq_getElem il]; rfl), ?_⟩
        refine ⟨(show 2 ≤ sizeLine by decide), NewO.mk fun t13 H13 n13 k13 h13 => ?_⟩
        have hl13 := k13 _ _ hl12 (by simp)
        refine ⟨t13, _, rfl, .inl (.inl h13), rfl, ?_⟩
        refine ⟨_, _, rfl, _, rfl, _, rfl, l, _, _, i, rfl, rfl, hl13, ?_, MutO.mk fun H14 k14 h14 => ?_⟩
        · exact ix_at (by rw [List.length_map]; exact il)
        refine ⟨_, _, rfl, _, rfl, _, rfl, l, _, _, k, rfl, rfl, h14, ?_, MutO.mk fun H15 k15 h15 => ?_⟩
        · exact ix_at (by rw [List.length_set, List.length_map]; exact kl)
        have sw : ((xs.map V.str).set i (V.str xs[k])).set k (V.str xs[i]) = ((xs.set i xs[k]).set k xs[i]).map V.str := by rw [List.map_set, List.map_set]
        rw [sw] at h15
        have pmx := List.set_set_perm il kl
        have mk2 := rep_mk gd (q := l) hjm (fun g hg => pmx.mem_iff.mp hg) (pmx.nodup_iff.mpr gx.2.1) (by rw [pmx.length_eq]; exact gx.2.2.1)
        have far : ∀ x o, H10 x = some o → x ≠ l → x ≠ b → H15 x = some o := fun x o ho n1 n2 =>
          k15 _ _ (k14 _ _ (k13 _ _ (k12 _ _ (k11 _ _ ho (by simpa using n2)) (by simpa using n2)) (by simp)) (by simpa using n1)) (by simpa using n1)
        have ml2 := ml_mut2 ml cp.nd gd.nd hjm far h15 (Ne.symm nbc) (fun e he => ne_of (ml.hl e he) hb10 (Ne.symm bag_ne))
        refine ⟨rfl, ?_⟩
        refine ⟨_, rfl, rfl, _, rfl, ?_⟩
        refine ifF (no _ _ (by decide)) ?_
        refine ifF rfl ?_
        refine ⟨_, rfl, rfl, _, rfl, ?_⟩
        refine ifF (no _ _ (by decide)) ?_
        refine ⟨_, rfl, ?_⟩
        exact q _ c x12 y12 z12 _ mk2 (ok12.mono (by omega)) (fun a o ho na => far _ _ (kH a o ho na) (nfr a o ho) (by simpa using na)) (k15 _ _ (k14 _ _ (k13 _ _ hb12 (by simp)) (by simpa using nbl)) (by simpa using nbl)) ml2
      · -- 4
        refine ⟨_, rfl, rfl, _, rfl, ?_⟩
        refine ifF (no _ _ (by decide)) ?_
        refine ⟨_, rfl, rfl, _, rfl, ?_⟩
        refine ifF (no _ _ (by decide)) ?_
        refine ⟨_, rfl, rfl, _, rfl, ?_⟩
        refine ifF (no _ _ (by decide)) ?_
        refine ifF rfl ?_
        refine ⟨_, rfl, rfl, _, rfl, ?_⟩
        refine ifF (no _ _ (by decide)) ?_
        refine ⟨_, rfl, ?_⟩
        exact q _ c x10 y10 z10 _ gd (ok10.mono (by omega)) kH hb10 ml
end
end K23
namespace K23
open PySem PySem.Spec PyProof.Rows L2 FR TL
open C8 (pss_cut pe_gc)
theorem Keep.fresh {M : List Addr} {H0 Hi Hj : Hp} (k0 : Keep [] H0 Hi) (k : Keep M Hi Hj) (f : ∀ x ∈ M, H0 x = none) : Keep [] H0 Hj := fun x o ho _ => k x o (k0 x o ho (by simp)) fun hm => by rw [f x hm] at ho; cases ho
theorem Ppl.keepM {C : Addr} {H H' : Hp} {p : Addr} {M : Mp} {gs : List Str} {d g dx : Addr} {kvs : List (L2.Key × V)} {Mx : List Addr} (h : Ppl C H p M gs d g dx kvs) (k : Keep Mx H H') (np : p ∉ Mx) (nd : d ∉ Mx) (ng : g ∉ Mx) (nt : ∀ q xs, H q = some (.tup xs) → q ∉ Mx) : Ppl C H' p M gs d g dx kvs :=
  ⟨k _ _ h.ob np, k _ _ h.hd nd, h.dm.imp fun _ _ ⟨q, e, hq⟩ => ⟨q, e, k _ _ hq (nt q _ hq)⟩, k _ _ h.hg ng, h.gd, h.gm, h.gl⟩
theorem Ppl.keepb {C : Addr} {H H' : Hp} {p b : Addr} {M : Mp} {gs : List Str} {d g dx : Addr} {kvs : List (L2.Key × V)} {x y z : Int} (h : Ppl C H p M gs d g dx kvs) (k : Keep [b] H H') (hb : H b = some (bagO x y z)) : Ppl C H' p M gs d g dx kvs :=
  h.keepM k (by simpa using ne_of h.ob hb (fun z => by cases z)) (by simpa using ne_of h.hd hb (fun z => by cases z)) (by simpa using ne_of h.hg hb (Ne.symm bag_ne)) fun q xs hq => by simpa using ne_of hq hb (fun z => by cases z)
theorem ML.keepb {H H' : Hp} {a b : Addr} {es : Es} {x y z : Int} (h : ML H a es) (k : Keep [b] H H') (hb : H b = some (bagO x y z)) : ML H' a es :=
  ⟨k _ _ h.hd (by simpa using ne_of h.hd hb (fun z => by cases z)), fun e he => k _ _ (h.hl e he) (by simpa using ne_of (h.hl e he) hb (Ne.symm bag_ne))⟩
/-! alike or not, whatever the order -/
theorem find_mem {N : Mp} (nd : (N.map (·.1)).Nodup) (e : Str × List Str) : ((N.find? fun x => decide (x.1 = e.1)).map (·.2) = some e.2) ↔ e ∈ N := by
  constructor
  · intro h
    obtain ⟨x, hx, h2⟩ := Option.map_eq_some_iff.mp h
    have h3 := List.find?_some hx
    have : x = e := Prod.ext (of_decide_eq_true h3) h2
    rw [← this]
    exact List.mem_of_find?_eq_some hx
  · intro h
    induction N with
    | nil => exact absurd h List.not_mem_nil
    | cons x r ih =>
      rw [List.map_cons, List.nodup_cons] at nd
      by_cases c : x.1 = e.1
      · rw [List.find?_cons_of_pos (by simpa using c)]
        rcases List.mem_cons.mp h with rfl | h
        · rfl
        · exact absurd (List.mem_map.mpr ⟨e, h, c.symm⟩) nd.1
      · rw [List.find?_cons_of_neg (by simpa using c)]
        rcases List.mem_cons.mp h with rfl | h
        · exact absurd rfl c
        · exact ih nd.2 h
theorem mEq_iff {M N : Mp} (nd : (N.map (·.1)).Nodup) : mEq M N = true ↔ M.length = N.length ∧ ∀ e ∈ M, e ∈ N := by
  unfold mEq
  rw [Bool.and_eq_true, beq_iff_eq, List.all_eq_true]
  refine and_congr_right fun _ => forall_congr' fun e => imp_congr_right fun _ => ?_
  rw [decide_eq_true_eq]
  exact find_mem nd e
theorem nd_pairs {M : Mp} (nd : (M.map (·.1)).Nodup) : M.Nodup := by
  induction M with
  | nil => exact .nil
  | cons x r ih =>
    rw [List.map_cons, List.nodup_cons] at nd
    exact List.nodup_cons.mpr ⟨fun h => nd.1 (List.mem_map_of_mem h), ih nd.2⟩
theorem mEq_comm {M N : Mp} (nM : (M.map (·.1)).Nodup) (nN : (N.map (·.1)).Nodup) : mEq N M = mEq M N := by
  rw [Bool.eq_iff_iff, mEq_iff nM, mEq_iff nN]
  have half : ∀ {A B : Mp}, (A.map (·.1)).Nodup → A.length = B.length → (∀ e ∈ A, e ∈ B) → ∀ e ∈ B, e ∈ A := fun {A B} nA l h e he => by
    by_cases c : e ∈ A
    · exact c
    · have : (e :: A).length ≤ B.length := (List.nodup_cons.mpr ⟨c, nd_pairs nA⟩).length_le_of_subset fun x hx => by
        rcases List.mem_cons.mp hx with rfl | hx
        · exact he
        · exact h x hx
      rw [List.length_cons] at this
      omega
  exact ⟨fun ⟨l, h⟩ => ⟨l.symm, half nN l h⟩, fun ⟨l, h⟩ => ⟨l.symm, half nM l h⟩⟩
theorem mEq_perm {M N M' N' : Mp} (p : M'.Perm M) (q : N'.Perm N) (nN : (N.map (·.1)).Nodup) : mEq M' N' = mEq M N := by
  rw [Bool.eq_iff_iff, mEq_iff ((q.map _).nodup_iff.mpr nN), mEq_iff nN, p.length_eq, q.length_eq]
  exact and_congr_right fun _ => ⟨fun h e he => q.mem_iff.mp (h e (p.mem_iff.mpr he)), fun h e he => q.mem_iff.mpr (h e (p.mem_iff.mp he))⟩
/-! dict([(user, tuple(others[user])) for user in reversed(list(others))]) -/
structure CRx (HL : Hp) (D : Addr) (m : Mp) (i : Nat) (H' : Hp) (fs : Fs) : Prop where
  hm : fs.map (·.2.2) = m.take i
  kp : Keep [] HL H'
  fD : HL D = none
  hD : H' D = some (.lst (fs.map fun f => .ref f.1))
  ht : ∀ f ∈ fs, H' f.1 = some (.tup [.str f.2.2.1, .ref f.2.1])
  hl : ∀ f ∈ fs, H' f.2.1 = some (.tup (f.2.2.2.map V.str))
def CR (HL : Hp) (D : Addr) (m : Mp) (i : Nat) (H' : Hp) : Prop := ∃ fs, CRx HL D m i H' fs
theorem CR.zero {HL : Hp} {D : Addr} {m : Mp} (h : HL D = none) : CR HL D m 0 (upd HL D (.lst [])) :=
  ⟨[], rfl, keep_new h, h, upd_same, fun _ h => absurd h List.not_mem_nil, fun _ h => absurd h List.not_mem_nil⟩
theorem CR.step {HL H1 H2 H3 : Hp} {D l t : Addr} {m : Mp} {i : Nat} {u : Str} {xs : List Str} (h : CR HL D m i H1) (hi : m[i]? = some (u, xs)) (k2 : Keep [] H1 H2) (h2 : H2 l = some (.tup (xs.map V.str))) (k3 : Keep [] H2 H3) (h3 : H3 t = some (.tup [.str u, .ref l])) :
    ∃ acc, H3 D = some (.lst acc) ∧ acc.length ≤ i ∧ CR HL D m (i + 1) (upd H3 D (.lst (acc ++ [.ref t]))) := by
  obtain ⟨fs, c⟩ := h
  have k13 : Keep [] H1 H3 := k2.trans k3
  have hD3 := k13 _ _ c.hD (by simp)
  have far : ∀ {q : Addr} {ys : List V}, H3 q = some (.tup ys) → upd H3 D (.lst ((fs.map fun f => V.ref f.1) ++ [.ref t])) q = some (.tup ys) := fun {q ys} hq => by
    rw [upd_ne (ne_of hq hD3 (fun z => by cases z))]
    exact hq
  refine ⟨_, hD3, ?_, fs ++ [(t, l, u, xs)], ?_, ?_, c.fD, ?_, fun f hf => ?_, fun f hf => ?_⟩
  · rw [List.length_map]
    have := congrArg List.length c.hm
    rw [List.length_map, List.length_take] at this
    omega
  · rw [List.map_append, c.hm, List.take_add_one, hi]
    rfl
  · exact keep_free (c.kp.trans k13) c.fD
  · rw [upd_same, List.map_append]
    rfl
  · rcases List.mem_append.mp hf with hf | hf
    · exact far (k13 _ _ (c.ht f hf) (by simp))
    · obtain rfl := List.mem_singleton.mp hf
      exact far h3
  · rcases List.mem_append.mp hf with hf | hf
    · exact far (k13 _ _ (c.hl f hf) (by simp))
    · obtain rfl := List.mem_singleton.mp hf
      exact far (k3 _ _ h2 (by simp))
theorem CR.done {K : PySem.W.Frag} {H H' : Hp} {D : Addr} {m : Mp} (h : CR H D m m.length H') (nd : (m.map (·.1)).Nodup) :
    ∃ (ps : List Addr) (kvs : List (L2.Key × V)), SqL K H' D (ps.map V.ref) ∧ Paired (fun p kv => SqT K H' p [kV kv.1, kv.2]) ps kvs ∧
      ∀ c, H' c = none → DM (Sq (upd H' c (.dK (mergeK [] kvs)))) (mergeK [] kvs) m ∧ Keep [] H (upd H' c (.dK (mergeK [] kvs))) := by
  obtain ⟨fs, c⟩ := h
  have hm : fs.map (·.2.2) = m := by rw [c.hm, List.take_length]
  have em : mergeK [] (dEs (fs.map (·.2))) = dEs (fs.map (·.2)) := by
    refine merge_nd (fs.map (·.2)) [] ?_
    rw [List.nil_append, List.map_map]
    rw [← hm, List.map_map] at nd
    exact nd
  refine ⟨fs.map (·.1), dEs (fs.map (·.2)), .inl (.inl ?_), ?_, fun d nd' => ⟨?_, ?_⟩⟩
  · rw [c.hD, List.map_map]
    rfl
  · have ht := c.ht
    clear c hm em
    unfold dEs
    rw [List.map_map]
    induction fs with
    | nil => exact .nil
    | cons f r ih => exact .cons (.inl (.inl (ht f List.mem_cons_self))) (ih fun g hg => ht g (List.mem_cons_of_mem _ hg))
  · rw [em]
    have e2 : mEs (fs.map (·.2)) = m := by
      unfold mEs
      rw [List.map_map]
      exact hm
    have := dm_es (R := Sq (upd H' d (.dK (dEs (fs.map (·.2)))))) (es := fs.map (·.2)) fun e he => by
      obtain ⟨f, hf, rfl⟩ := List.mem_map.mp he
      refine ⟨f.2.1, rfl, .inr ?_⟩
      rw [upd_ne (ne_of_none (c.hl f hf) nd')]
      exact c.hl f hf
    rw [e2] at this
    exact this
  · exact c.kp.trans (keep_new nd')
end K23
namespace K23
open PySem PySem.Spec PyProof.Rows L2 FR TL
open C8 (pss_cut pe_gc)
section
variable {P : Program} {w : World} {K : PySem.W.Frag} {mg : Str → Option Value} {base : Heap} {A : Ads}
set_option pp.maxSteps 120
theorem bd_People___init___1 (T : Txt K mg A) : Vals [] [] ∧ Binds K A.d_People___init__ ["self", "members"] [] := ⟨.nil, T.B_People___init__⟩
def spLaw (K : PySem.W.Frag) : Sp := fun vs H Q _ => ∃ (a : Addr) (ns : List Int), vs = [.ref a] ∧ SqL K H a (ns.map V.int) ∧ ns.length ≤ 63 ∧ ∀ H', Q (.bl true) H'
theorem keep_sq {H H' : Hp} {a : Addr} {xs : List V} (h : SqL K H a xs) (k : Keep [] H H') : SqL K H' a xs := by
  rcases h with (h | ⟨o, h⟩) | h
  · exact .inl (.inl (k _ _ h (by simp)))
  · exact .inl (.inr ⟨o, k _ _ h (by simp)⟩)
  · exact .inr h
theorem ok_law (T : Txt K mg A) : FnOk P w K mg base CX0 6 A.f_law A.d_law ["_law_script"] (spLaw K) := by
  refine T.F_law.ok sc_law (fun vs H Q E h => ?_) (fun cdv A_ outer s_ H vs Q E hr h => ?_)
  · obtain ⟨a, ns, rfl, _⟩ := h
    rfl
  · obtain ⟨sa, ns, rfl, hS, hlen, q⟩ := h
    refine ⟨_, (pss_cons (ps_for PassesOwn.never rfl (pi_range1 (by rfl) T.b_range (pa_cons (pe_callB (call_max2 rfl) (by rfl) T.b_max (by decide +kernel) (pa_cons pe_int (pa_cons (pe_callB (call_min2 rfl) (by rfl) T.b_min (by decide +kernel) (pa_cons pe_int (pa_cons (pe_callB call_len_seq (by rfl) T.b_len PySem.boot_len (pa_cons (pv 0) pa_nil)) pa_nil))) pa_nil))) pa_nil)) (pg_name (i := 1) sc_law.nd rfl (.inl rfl)) (pss_cons (ps_set (i := 2) sc_law.nd rfl (.inl rfl) (pe_call (ok_bag T) (hr.mono (by decide)) (by rfl) T.g_bag T.F_bag.kp T.B_bag .nil pass0 (pa_cons (pe_call (ok_cell T) (hr.mono (by decide)) (by rfl) T.g_cell T.F_cell.kp T.B_cell .nil pass0 (pa_cons (pv 0) (pa_cons (pv 1) pa_nil))) pa_nil)))
  (pss_cons (ps_set (i := 3) sc_law.nd rfl (.inl rfl) (pe_call (ok_members T) (hr.mono (by decide)) (by rfl) T.g_members T.F_members.kp T.B_members .nil pass0 (pa_cons (pv 2) pa_nil)))
  (pss_cons (ps_set (i := 4) sc_law.nd rfl (.inl rfl) (pe_callTy (call_dictP rfl) (by rfl) T.b_dict (by decide +kernel) (pa_cons (pe_lock (pe_lc (own := [("_law_user_one", 9), ("_law_groups", 6)]) (g := gTup K 2 (gCons (gName 9) (gCons (gName 6) gNil))) rfl sc_law.nd (pi_items (pv 3)) (blkOk_by (own := [("_law_user_one", 9), ("_law_groups", 6)]) (N := N_law) (sc := defScope s_law) (by decide +kernel)) (fun _ _ _ _ _ => (pg_tup rfl (pgs_cons (pg_name (i := 9) sc_law.nd rfl (.inl rfl)) (pgs_cons (pg_name (i := 6) sc_law.nd rfl (.inl rfl)) pgs_nil)))) (fun _ _ _ _ _ => pts_nil) (fun _ _ _ _ _ => (pe_tupN (pa_cons (pv 9) (pa_cons (pe_callTy (call_lofNK (K := K) rfl) (by rfl) T.b_list (by decide +kernel) (pa_cons (pv 6) pa_nil)) pa_nil)))))) pa_nil)))
  (pss_cons (ps_set (i := 5) sc_law.nd rfl (.inl rfl) (pe_makeK0 T.mk_People (ok_People___init__ T) (hr.mono (by decide)) (by rfl) T.gC_People (kbF T.F_People___init__ 1 ["members"] (fun us ws => us ++ ws) (fun r1 r2 => r1.append r2) (by walk_at "kwb")) pass0 (pk_cons (pv 4) pk_nil)))
  (pss_cons (ps_lock (ps_for PassesOwn.never rfl (pi_values (pv 4)) (pg_name (i := 6) sc_law.nd rfl (.inl rfl)) (pss_one (ps_expr (pe_bm PySem.F.plainAttrs_list PySem.F.slot_list_append PySem.F.type_list_append mt_appN (pv 6) (pa_cons pe_str pa_nil))))))
  (pss_cons (ps_expr (pe_dclear (pv 4)))
  (pss_cons (ps_set (i := 7) sc_law.nd rfl (.inr rfl) (pe_call (ok_changed T) (hr.mono (by decide)) (by rfl) T.g_changed T.F_changed.kp T.B_changed .nil pass0 (pa_cons (pv 2) (pa_cons (pv 3) pa_nil))))
  (pss_cons (ps_set (i := 8) sc_law.nd rfl (.inl rfl) (pe_make T.mk_People (ok_People___init__ T) (hr.mono (by decide)) (by rfl) T.gC_People (bd_People___init___1 T).2 (bd_People___init___1 T).1 pass0 (pa_cons (pe_callTy (call_dictP rfl) (by rfl) T.b_dict (by decide +kernel) (pa_cons (pe_lc (own := [("_law_user_one", 9)]) (g := gName 9) rfl sc_law.nd (pi_reversed (by rfl) T.b_reversed (pa_cons (pe_callTy (call_listD rfl) (by rfl) T.b_list (by decide +kernel) (pa_cons (pv 7) pa_nil)) pa_nil)) (blkOk_by (own := [("_law_user_one", 9)]) (N := N_law) (sc := defScope s_law) (by decide +kernel)) (fun _ _ _ _ _ => pg_name (i := 9) sc_law.nd rfl (Or.inl rfl)) (fun _ _ _ _ _ => pts_nil) (fun _ _ _ _ _ => (pe_tupN (pa_cons (pv 9) (pa_cons (pe_callTy (call_tuple_ofK (K := K) rfl) (by rfl) T.b_tuple (by decide +kernel) (pa_cons (pe_dget (hu_of hr) (pv 7) (pv 9) (fun _ _ => rfl)) pa_nil)) pa_nil))))) pa_nil)) pa_nil)))
  (pss_cons (ps_if (pt_not (pt_val (pe_call (ok_fresh_right T) (hr.mono (by decide)) (by rfl) T.g_fresh_right T.F_fresh_right.kp T.B_fresh_right .nil pass0 (pa_cons (pe_makeK0 T.mk_People (ok_People___init__ T) (hr.mono (by decide)) (by rfl) T.gC_People (kbF T.F_People___init__ 1 ["members"] (fun us ws => us ++ ws) (fun r1 r2 => r1.append r2) (by walk_at "kwb")) pass0 (pk_cons (pv 3) pk_nil)) (pa_cons (pv 3) pa_nil))))) (pss_one (ps_ret pe_bl)) pss_nil)
  (pss_cons (ps_if (PW.pt (pw_or (pt_not (pt_val (pe_call (ok_right T) (hr.mono (by decide)) (by rfl) T.g_right T.F_right.kp T.B_right .nil pass0 (pa_cons (pv 5) (pa_cons (pv 3) pa_nil))))) (pw_or (pt_not (pt_val (pe_call (ok_right T) (hr.mono (by decide)) (by rfl) T.g_right T.F_right.kp T.B_right .nil pass0 (pa_cons (pv 8) (pa_cons (pv 7) pa_nil))))) (pw_or1 (pt_not (pt_val (pe_call (ok_right T) (hr.mono (by decide)) (by rfl) T.g_right T.F_right.kp T.B_right .nil pass0 (pa_cons (pv 5) (pa_cons (pv 3) pa_nil))))))))) (pss_one (ps_ret pe_bl)) pss_nil)
  (pss_cons (ps_if (PW.pt (pw_or (pt_cmpR op_ne (pe_cmpR (op_cmpI (fun _ _ => rfl) T.me_People___eq__.at_ T.me_People___eq__.fn ((ok_People___eq__ T).raw T.B_People___eq__ .nil) (hr.mono (by decide)) pass0) (pv 5) (pv 8) (nomark _)) (pe_cmpR (op_eqDD (u65 hr)) (pv 3) (pv 7) (nomark _)) (nomark _)) (pw_or1 (pt_cmpR op_ne (pe_cmpR (op_cmpI (fun _ _ => rfl) T.me_People___eq__.at_ T.me_People___eq__.fn ((ok_People___eq__ T).raw T.B_People___eq__ .nil) (hr.mono (by decide)) pass0) (pv 8) (pv 5) (nomark _)) (pe_cmpR (op_eqDD (u65 hr)) (pv 3) (pv 7) (nomark _)) (nomark _))))) (pss_one (ps_ret pe_bl)) pss_nil)
  (pss_one (ps_if (PW.pt (pw_or (pt_cmpR (op_cmpX (fun _ _ => rfl) T.me_People___eq__.at_ T.me_People___eq__.fn ((ok_People___eq__ T).raw T.B_People___eq__ .nil) (hr.mono (by decide)) pass0) (pv 5) (pv 3) (nomark _)) (pw_or (pt_cmpR (op_cmpX (fun _ _ => rfl) T.me_People___eq__.at_ T.me_People___eq__.fn ((ok_People___eq__ T).raw T.B_People___eq__ .nil) (hr.mono (by decide)) pass0) (pv 5) pe_int (nomark _)) (pw_or1 (pt_cmpR (op_neI T.in_People.hm T.ne_People T.me_People___eq__.at_ T.me_People___eq__.fn ((ok_People___eq__ T).raw T.B_People___eq__ .nil) (hr.mono (by decide)) pass0) (pv 5) (pv 5) (nomark _)))))) (pss_one (ps_ret pe_bl)) pss_nil))))))))))))))
  (pss_one (ps_ret pe_bl))), ?_⟩
    walk_at "rd"
    refine for_rg (fun i σ H' => (∃ y1 y2 y3 y4 y5 y6 y7 y8 y9, σ = [some (.ref sa), y1, y2, y3, y4, y5, y6, y7, y8, y9]) ∧ Keep [] H H') ⟨⟨none, none, none, none, none, none, none, none, none, rfl⟩, Keep.refl⟩ ?_ ?_
    · rintro i σ H1 hi ⟨⟨y1, y2, y3, y4, y5, y6, y7, y8, y9, rfl⟩, K1⟩
      have hi' : i < 63 := by
        refine Nat.lt_of_lt_of_le hi ?_
        rw [List.length_map]
        omega
      refine ⟨_, rfl, _, rfl, ?_⟩
      refine ⟨sa, ns, _, rfl, keep_sq hS K1, by omega, by omega, fun n => ?_⟩
      refine ⟨n, rfl, fun bx by_ bz bok => NewO.mk fun b H2 n2 k2 h2 => ?_⟩
      have K2 := K1.trans k2
      have fb : H b = none := K1.free n2
      clear K1 k2
      refine ⟨_, rfl, b, 0, bx, by_, bz, rfl, h2, bok, by decide, fun es a1 x3 y3' z3 H3 gd ok3 k3 hb3 ml => ?_⟩
      have K3 : Keep [] H H3 := Keep.fresh K2 k3 (by simpa using fb)
      clear k3 K2 h2
      -- the copy
      refine ⟨a1, _, ml.hd, trivial, fun od => ?_⟩
      refine ⟨_, rfl, a1, od, _, rfl, upd_same, fun D hD => ?_⟩
      refine lc_it walk_items (fun i H' => CI (upd H3 a1 (.frz od (.dK (dEs es)))) D (mEs es) i H') (CI.zero hD) (fun i H' _ h => ?_) (fun i v H4 H5 hi h4 y4 => ?_) (fun H4 h4 => ?_)
      · obtain ⟨fs, c⟩ := h
        exact c.kp _ _ upd_same (by simp)
      · obtain ⟨Tp, x1, x2, rfl, nT, rfl, e1, e2⟩ := y4
        have hl : i < es.length := by rw [dEs_len] at hi; exact hi
        have hi2 : es[i]? = some es[i] := List.getElem?_eq_getElem hl
        have hd1 : (dEs es)[i]? = some (Sum.inr es[i].2.1, .ref es[i].1) := by unfold dEs; rw [List.getElem?_map, hi2]; rfl
        have hm1 : (mEs es)[i]? = some es[i].2 := by unfold mEs; rw [List.getElem?_map, hi2]; rfl
        have e1 : (dEs es)[i]?.map (fun kv => kV kv.1) = some x1 := e1
        have e2 : (dEs es)[i]?.map Prod.snd = some x2 := e2
        rw [hd1] at e1 e2
        obtain rfl : V.str es[i].2.1 = x1 := Option.some.inj e1
        obtain rfl : V.ref es[i].1 = x2 := Option.some.inj e2
        have hem : es[i] ∈ es := List.getElem_mem hl
        have hle := ml.hl _ hem
        generalize es[i] = e at hi2 hm1 hem hle nT ⊢
        have nea : e.1 ≠ a1 := ne_of hle ml.hd (fun z => by cases z)
        have k4 : Keep [] (upd H3 a1 (.frz od (.dK (dEs es)))) H4 := by
          obtain ⟨fs, c⟩ := h4
          exact c.kp
        have he4 : H4 e.1 = some (.lst (e.2.2.map V.str)) := k4 _ _ (by rw [upd_ne nea]; exact hle) (by simp)
        have k5 : Keep [] H4 (upd H4 Tp (.tup [.str e.2.1, .ref e.1])) := keep_new nT
        refine ⟨Tp, _, rfl, .inl (.inl upd_same), rfl, ?_⟩
        walk_at "rd"
        refine ⟨e.1, _, rfl, .inl (.inl (.inl (k5 _ _ he4 (by simp)))), NewO.mk fun l6 H6 n6 k6 h6 => ?_⟩
        refine ⟨(show 2 ≤ sizeLine by decide), NewO.mk fun t7 H7 n7 k7 h7 => ?_⟩
        obtain ⟨acc, a1, a2, a3⟩ := h4.step hm1 k5 n6 k6 h6 n7 k7 h7
        have := gd.l6
        rw [mEs_len] at this
        exact ⟨acc, a1, size_ok (by omega), a3⟩
      · rw [dEs_len, ← mEs_len] at h4
        refine ⟨?_, ?_⟩
        · obtain ⟨fs, c⟩ := h4
          exact c.kp _ _ upd_same (by simp)
        obtain ⟨ps, kvs, s1, s2, s3⟩ := CI.done (K := K) ml.hd h4 gd.nd
        refine ⟨D, ps, kvs, rfl, s1, s2, fun c nc => ?_⟩
        obtain ⟨es2, em1, em2, cp⟩ := s3 c nc
        generalize upd (upd H4 a1 (.dK (dEs es))) c (.dK (mergeK [] kvs)) = H6 at cp ⊢
        clear s1 s2 s3 h4 nc em1 hD
        have K6 := K3.trans cp.kp
        have hb6 := cp.kp _ _ hb3 (by simp)
        have ml6 := ml.keep cp.kp
        have hc6 := cp.ml.hd
        refine ⟨_, rfl, rfl, rfl, fun p pdx np ndx npx => ?_⟩
        have kP : Keep [] H6 (upd (upd H6 pdx (.own p)) p (.ins A.C_People pdx [])) := (keep_new ndx).trans (keep_new (by rw [upd_ne (Ne.symm npx)]; exact np))
        have mlP := cp.ml.keep kP
        refine ⟨p, pdx, c, _, mEs es2, rfl, upd_same, mlP.hd, mlP.dm.imp fun _ _ r => r.sq, by rw [em2]; exact gd, fun H7 d g dx' ks k7 pm hP nd ng => ⟨rfl, ?_⟩⟩
        rw [em2] at pm hP
        have K7 : Keep [] H6 H7 := Keep.fresh kP k7 (by simpa using np)
        have nd6 := kP.free nd
        have ng6 := kP.free ng
        have hb7 := K7 _ _ hb6 (by simp)
        have cpl := cp.ml.keep K7
        have mM : ∀ x ∈ es2.map (·.1), ∃ zs : List Str, H7 x = some (.lst (zs.map V.str)) ∧ H3 x = none ∧ H6 x ≠ none := fun x hx => by
          obtain ⟨e, he, rfl⟩ := List.mem_map.mp hx
          exact ⟨e.2.2, cpl.hl e he, cp.fr e he, by rw [cp.ml.hl e he]; exact fun z => by cases z⟩
        have ncM : c ∉ es2.map (·.1) := fun hx => by
          obtain ⟨zs, h1, _⟩ := mM c hx
          rw [cpl.hd] at h1
          cases h1
        clear mlP kP k7 nd ng
        refine ⟨c, _, cpl.hd, trivial, fun od2 => ?_⟩
        refine ⟨_, rfl, c, od2, _, rfl, upd_same, ?_⟩
        refine for_it walk_values (fun j σ' H' => (∃ y6 y7 y8 y9, σ' = [some (.ref sa), some (.int (0 + i)), some (.ref b), some (.ref a1), some (.ref c), some (.ref p), y6, y7, y8, y9]) ∧ Keep (es2.map (·.1)) (upd H7 c (.frz od2 (.dK (dEs es2)))) H' ∧ ∀ e ∈ es2, ∃ zs : List V, H' e.1 = some (.lst zs) ∧ zs.length ≤ 6 + j) ⟨⟨_, _, _, _, rfl⟩, Keep.refl, fun e he => ⟨_, by rw [upd_ne (fun z => ncM (by rw [← z]; exact List.mem_map_of_mem he))]; exact cpl.hl e he, ?_⟩⟩ ?_ ?_ ?_
        · rw [List.length_map]
          have := (gd.gs e.2 (by rw [← em2]; exact List.mem_map_of_mem he)).2.2.2
          omega
        · rintro j σ' H' _ ⟨_, k, _⟩
          exact k _ _ upd_same ncM
        · rintro j v σ' H8 H8' hj ⟨⟨u6, u7, u8, u9, rfl⟩, k8, all8⟩ ⟨rfl, kk, hkv⟩
          have jl : j < es2.length := by rw [dEs_len] at hj; exact hj
          have hj2 : es2[j]? = some es2[j] := List.getElem?_eq_getElem jl
          have hkv2 : (dEs es2)[j]? = some (Sum.inr es2[j].2.1, .ref es2[j].1) := by unfold dEs; rw [List.getElem?_map, hj2]; rfl
          rw [hkv2] at hkv
          obtain ⟨_, rfl⟩ : Sum.inr es2[j].2.1 = kk ∧ V.ref es2[j].1 = v := by
            have := Option.some.inj hkv
            exact ⟨congrArg Prod.fst this, congrArg Prod.snd this⟩
          obtain ⟨zs, hz, lz⟩ := all8 _ (List.getElem_mem jl)
          have hMj : es2[j].1 ∈ es2.map (·.1) := List.mem_map_of_mem (List.getElem_mem jl)
          have l6 : es2.length ≤ 6 := by rw [← mEs_len, em2]; exact gd.l6
          generalize es2[j].1 = l at hz hMj ⊢
          refine ⟨_, rfl, .inl ⟨rfl, _, .inl (.inl hz)⟩, ?_⟩
          refine ⟨l, zs, _, rfl, rfl, hz, size_ok (by omega), MutO.mk fun H9 k9 h9 => ?_⟩
          refine ⟨⟨_, _, _, _, rfl⟩, fun x o hx nx => k9 _ _ (k8 _ _ hx nx) (by simpa using fun z => nx (by rw [z]; exact hMj)), fun e he => ?_⟩
          by_cases z : e.1 = l
          · exact ⟨_, by rw [z]; exact h9, by rw [List.length_append, List.length_singleton]; omega⟩
          · obtain ⟨zs', h', l'⟩ := all8 e he
            exact ⟨zs', k9 _ _ h' (by simpa using z), by omega⟩
        · rintro σ' H8 ⟨⟨u6, u7, u8, u9, rfl⟩, k8, _⟩
          refine ⟨k8 _ _ upd_same ncM, ?_⟩
          have k9 : Keep (es2.map (·.1)) H7 (upd H8 c (.dK (dEs es2))) := keep_lock cpl.hd k8
          have hc9 : (upd H8 c (.dK (dEs es2))) c = some (.dK (dEs es2)) := upd_same
          generalize upd H8 c (.dK (dEs es2)) = H9 at k9 hc9 ⊢
          clear k8
          refine ⟨_, rfl, .inr (.inr (.inl ⟨rfl, .inl ⟨_, hc9⟩⟩)), c, _, rfl, rfl, hc9, ?_⟩
          have kM : Keep (c :: es2.map (·.1)) H7 (upd H9 c (.dK [])) := fun x o hx nx => by
            rw [List.mem_cons, not_or] at nx
            rw [upd_ne nx.1]
            exact k9 _ _ hx nx.2
          generalize upd H9 c (.dK []) = H10 at kM ⊢
          clear k9 hc9
          have bM : b ∉ c :: es2.map (·.1) := by
            rw [List.mem_cons, not_or]
            refine ⟨ne_of hb7 cpl.hd (fun z => by cases z), fun hx => ?_⟩
            obtain ⟨zs, h1, _⟩ := mM b hx
            rw [hb7] at h1
            exact bag_ne (Option.some.inj h1)
          have oM : ∀ x o, H3 x = some o → x ∉ c :: es2.map (·.1) := fun x o hx => by
            rw [List.mem_cons, not_or]
            refine ⟨fun z => (by rw [z, cp.hc] at hx; cases hx), fun hm => ?_⟩
            obtain ⟨zs, _, h1, _⟩ := mM x hm
            rw [hx] at h1
            cases h1
          have tM : ∀ x (o : HO), H7 x = some o → (∀ ys, o ≠ .lst ys) → (∀ ys, o ≠ .dK ys) → x ∉ c :: es2.map (·.1) := fun x o hx n1 n2 => by
            rw [List.mem_cons, not_or]
            refine ⟨fun z => ?_, fun hm => ?_⟩
            · rw [z, cpl.hd] at hx
              exact n2 _ (Option.some.inj hx).symm
            · obtain ⟨zs, h1, _⟩ := mM x hm
              rw [hx] at h1
              exact n1 _ (Option.some.inj h1)
          have nM : ∀ x, H6 x = none → x ∉ c :: es2.map (·.1) := fun x hx => by
            rw [List.mem_cons, not_or]
            refine ⟨fun z => (by rw [z, hc6] at hx; cases hx), fun hm => ?_⟩
            obtain ⟨zs, _, _, h1⟩ := mM x hm
            exact h1 hx
          have K10 : Keep [] H H10 := Keep.fresh (K6.trans K7) kM fun x hx => by
            cases e : H x with
            | none => rfl
            | some o => exact absurd hx (oM x o (K3 _ _ e (by simp)))
          have hb10 := kM _ _ hb7 bM
          have ml7 := ml6.keep K7
          have ml10 : ML H10 a1 es := ⟨kM _ _ ml7.hd (oM _ _ ml.hd), fun e he => kM _ _ (ml7.hl e he) (oM _ _ (ml.hl e he))⟩
          have hP10 := hP.keepM kM (tM _ _ hP.ob (fun _ z => by cases z) (fun _ z => by cases z)) (nM _ nd6) (nM _ ng6) fun q xs hq => tM _ _ hq (fun _ z => by cases z) (fun _ z => by cases z)
          clear oM tM nM bM kM hP ml7 hb7 cpl mM ncM K7 nd6 ng6 hc6 ml6 hb6 K6 cp ml hb3 K3
          refine ⟨_, rfl, _, rfl, ?_⟩
          refine ⟨b, a1, es, _, _, _, _, rfl, hb10, ok3, by decide, ml10, gd, fun es' oc x11 y11 z11 H11 gd' ok11 k11 hb11 mlo => ?_⟩
          have K11 : Keep [] H H11 := Keep.fresh K10 k11 (by simpa using fb)
          have hP11 := hP10.keepb k11 hb10
          have ml11 := ml10.keepb k11 hb10
          clear K10 hP10 ml10 k11 hb10 ok3
          refine ⟨_, rfl, oc, _, rfl, .inl mlo.hd, fun lp nl => ?_⟩
          have hl12 : upd H11 lp (.lst ((dEs es').map fun kv => kV kv.1)) lp = some (.lst (((mEs es').map (·.1)).map V.str)) := by
            rw [upd_same]
            unfold dEs mEs
            rw [List.map_map, List.map_map, List.map_map]
            rfl
          have K12 : Keep [] H11 (upd H11 lp (.lst ((dEs es').map fun kv => kV kv.1))) := keep_new nl
          generalize upd H11 lp (.lst ((dEs es').map fun kv => kV kv.1)) = H12 at hl12 K12 ⊢
          refine ⟨lp, _, rfl, .inl (.inl hl12), fun D2 hD2 => ?_⟩
          have mlo12 := mlo.keep K12
          have lY : (((mEs es').map (·.1)).map V.str).length = (mEs es').reverse.length := by simp
          refine lc_it (walk_rev (xs := ((mEs es').map (·.1)).map V.str)) (fun i H' => CR H12 D2 (mEs es').reverse i H') (CR.zero hD2) (fun i H' _ h => ?_) (fun i v H13 H14 hi h13 y13 => ?_) (fun H13 h13 => ?_)
          · obtain ⟨fs, cr⟩ := h
            exact .inl (.inl (cr.kp _ _ hl12 (by simp)))
          · obtain ⟨rfl, hv⟩ := y13
            have li : i < (mEs es').reverse.length := by rw [← lY]; exact hi
            have hri : (mEs es').reverse[i]? = some (mEs es').reverse[i] := List.getElem?_eq_getElem li
            have hv2 : v = V.str ((mEs es').reverse[i]).1 := by
              rw [← List.getElem?_reverse hi, List.map_map, ← List.map_reverse, List.getElem?_map, hri] at hv
              exact (Option.some.inj hv).symm
            have hem : (mEs es').reverse[i] ∈ mEs es' := List.mem_reverse.mp (List.getElem_mem li)
            have l6 : i < 6 := by
              rw [List.length_reverse] at li
              have := gd'.l6
              omega
            generalize (mEs es').reverse[i] = e at hri hv2 hem
            subst hv2
            have k14 : Keep [] H12 H14 := by
              obtain ⟨fs, cr⟩ := h13
              exact cr.kp
            have mlo14 := mlo12.keep k14
            obtain ⟨v, hv', q', rfl, hq⟩ := mlo14.dm.val (List.mem_map_of_mem hem)
            rw [mget_mem gd'.nd hem] at hq
            walk_at "rd"
            refine ⟨oc, _, rfl, .inl ⟨_, Sum.inr e.1, .inl mlo14.hd, rfl, hv'.symm⟩, ?_⟩
            refine ⟨q', _, rfl, .inl ⟨.inl (.inl hq), fun l15 n15 => ?_⟩⟩
            refine ⟨(show 2 ≤ sizeLine by decide), NewO.mk fun t16 H16 n16 k16 h16 => ?_⟩
            obtain ⟨acc, c1, c2, c3⟩ := h13.step (u := e.1) (xs := e.2) hri (keep_new n15) upd_same k16 h16
            exact ⟨acc, c1, size_ok (by omega), c3⟩
          · rw [lY] at h13
            have ndr : ((mEs es').reverse.map (·.1)).Nodup := by
              rw [List.map_reverse]
              exact (List.reverse_perm _).nodup_iff.mpr gd'.nd
            obtain ⟨ps, kvs, s1, s2, s3⟩ := CR.done (K := K) h13 ndr
            refine ⟨D2, ps, kvs, rfl, s1, s2, fun c2 nc2 => ?_⟩
            obtain ⟨dm2, k2⟩ := s3 c2 nc2
            have hc2 : (upd H13 c2 (.dK (mergeK [] kvs))) c2 = some (.dK (mergeK [] kvs)) := upd_same
            generalize upd H13 c2 (.dK (mergeK [] kvs)) = H14 at dm2 k2 hc2 ⊢
            generalize mergeK [] kvs = kv2 at dm2 hc2
            clear s1 s2 s3 h13 nc2 hD2
            intro p2 pdx2 np2 ndx2 npx2
            have kQ : Keep [] H14 (upd (upd H14 pdx2 (.own p2)) p2 (.ins A.C_People pdx2 [])) := (keep_new ndx2).trans (keep_new (by rw [upd_ne (Ne.symm npx2)]; exact np2))
            refine ⟨p2, pdx2, c2, kv2, (mEs es').reverse, rfl, upd_same, kQ _ _ hc2 (by simp), dm2.imp fun _ _ r => r.keep kQ, gd'.perm (List.reverse_perm _), fun H15 d2 g2 dx2 ks2 k15 pm2 hP2 _ _ => ⟨rfl, ?_⟩⟩
            rw [sm_perm2 gd'.nd (List.reverse_perm _), gs_perm (List.reverse_perm _)] at hP2
            rw [sm_perm2 gd'.nd (List.reverse_perm _)] at pm2
            have pm2 : (sm (mEs es')).Perm (mEs es') := pm2.trans (List.reverse_perm _)
            have kk : Keep [] H11 H15 := (K12.trans k2).trans (Keep.fresh kQ k15 (by simpa using np2))
            have K15 := K11.trans kk
            have hP15 := hP11.keep kk
            have ml15 := ml11.keep kk
            have mlo15 := mlo.keep kk
            have hb15 := kk _ _ hb11 (by simp)
            clear K11 hP11 ml11 mlo kk K12 k2 kQ hc2 dm2 hl12 mlo12 k15 hb11
            refine ⟨_, rfl, rfl, rfl, fun p3 pdx3 np3 ndx3 npx3 => ?_⟩
            have kR : Keep [] H15 (upd (upd H15 pdx3 (.own p3)) p3 (.ins A.C_People pdx3 [])) := (keep_new ndx3).trans (keep_new (by rw [upd_ne (Ne.symm npx3)]; exact np3))
            have mlR := ml15.keep kR
            refine ⟨p3, pdx3, a1, _, mEs es, rfl, upd_same, mlR.hd, mlR.dm.imp fun _ _ r => r.sq, gd, fun H16 d3 g3 dx3 ks3 k16 pm3 hP3 _ _ => ⟨rfl, ?_⟩⟩
            have k16' := Keep.fresh kR k16 (by simpa using np3)
            refine ⟨_, rfl, ?_⟩
            refine ⟨p3, a1, es, rfl, ⟨_, _, _, _, hP3⟩, ml15.keep k16', gd, pm, fun H17 k17 => ?_⟩
            refine ⟨_, rfl, ?_⟩
            refine ifF rfl ?_
            have kk := k16'.trans k17
            have K17 := K15.trans kk
            have hP17 := hP15.keep kk
            have hO17 := hP2.keep kk
            have ml17 := ml15.keep kk
            have mlo17 := mlo15.keep kk
            clear kR mlR hP3 k16' k16 k17 kk K15 hP15 hP2 ml15 mlo15 hb15
            refine ⟨_, rfl, _, rfl, p, a1, es, rfl, ⟨_, _, _, _, hP17⟩, ml17, gd, pm, fun H18 k18 => ?_⟩
            refine ⟨_, rfl, ?_⟩
            refine ifF rfl ?_
            refine ⟨_, rfl, _, rfl, p2, oc, es', rfl, ⟨_, _, _, _, hO17.keep k18⟩, mlo17.keep k18, gd', pm2, fun H19 k19 => ?_⟩
            refine ⟨_, rfl, ?_⟩
            refine ifF rfl ?_
            refine ⟨_, rfl, _, rfl, p, a1, es, rfl, ⟨_, _, _, _, (hP17.keep k18).keep k19⟩, (ml17.keep k18).keep k19, gd, pm, fun H20 k20 => ?_⟩
            refine ⟨_, rfl, ?_⟩
            refine ifF rfl ?_
            have kk := (k18.trans k19).trans k20
            have K20 := K17.trans kk
            have hP20 := hP17.keep kk
            have hO20 := hO17.keep kk
            have ml20 := ml17.keep kk
            have mlo20 := mlo17.keep kk
            clear K17 hP17 hO17 ml17 mlo17 k18 k19 k20 kk
            have dpM : DpK K H20 (dEs es) (mD .list (mEs es)) := dpk_of (fun ws a => shaped_strs a) ml20.dm gd.asc fun v xs ⟨q, e, hq⟩ => by
              subst e
              exact dp_strs (.inl (.inl hq))
            have dpO : DpK K H20 (dEs es') (mD .list (mEs es')) := dpk_of (fun ws a => shaped_strs a) mlo20.dm gd'.asc fun v xs ⟨q, e, hq⟩ => by
              subst e
              exact dp_strs (.inl (.inl hq))
            have eD : (false != eqDD (mD .list (mEs es)) (mD .list (mEs es'))) = mEq (mEs es) (mEs es') := eqDD_mEq (fun a b => eqv_lists a b)
            have eP : mEq (sm (mEs es)) (sm (mEs es')) = mEq (mEs es) (mEs es') := mEq_perm pm pm2 gd'.nd
            have eQ : mEq (sm (mEs es')) (sm (mEs es)) = mEq (mEs es) (mEs es') := by
              rw [mEq_perm pm2 pm gd.nd, mEq_comm gd.nd gd'.nd]
            refine ⟨_, rfl, _, rfl, p, _, _, p2, _, _, rfl, rfl, hP20.ob, hO20.ob, p, _, _, _, rfl, ⟨_, _, _, _, hP20⟩, .inl ⟨p2, _, _, rfl, ⟨_, _, _, _, hO20⟩, ?_⟩⟩
            rw [eP]
            refine ⟨_, rfl, _, rfl, a1, oc, _, _, _, _, rfl, rfl, .inl ml20.hd, .inl mlo20.hd, dpM, dpO, ?_⟩
            rw [eD]
            refine ⟨rfl, _, rfl, ?_⟩
            refine ifF (by rw [decide_eq_true rfl]; rfl) ?_
            refine ⟨_, rfl, _, rfl, p2, _, _, p, _, _, rfl, rfl, hO20.ob, hP20.ob, p2, _, _, _, rfl, ⟨_, _, _, _, hO20⟩, .inl ⟨p, _, _, rfl, ⟨_, _, _, _, hP20⟩, ?_⟩⟩
            rw [eQ]
            refine ⟨_, rfl, _, rfl, a1, oc, _, _, _, _, rfl, rfl, .inl ml20.hd, .inl mlo20.hd, dpM, dpO, ?_⟩
            rw [eD]
            refine ⟨rfl, _, rfl, ?_⟩
            refine ifF (by rw [decide_eq_true rfl]; rfl) ?_
            refine ⟨_, rfl, _, rfl, p, _, _, _, rfl, hP20.ob, TyX.base (.dK ml20.hd), T.nf_People_dict, p, _, _, _, rfl, ⟨_, _, _, _, hP20⟩, .inr ⟨.inl ⟨a1, _, rfl, ml20.hd⟩, ?_⟩⟩
            refine ⟨_, rfl, ?_⟩
            refine ifF rfl ?_
            refine ⟨_, rfl, p, _, _, _, rfl, hP20.ob, TyX.base (.int _), T.nf_People_int, p, _, _, _, rfl, ⟨_, _, _, _, hP20⟩, .inr ⟨.inr ⟨_, rfl⟩, ?_⟩⟩
            refine ⟨_, rfl, ?_⟩
            refine ifF rfl ?_
            refine ⟨_, rfl, _, rfl, p, _, _, p, _, _, rfl, rfl, hP20.ob, hP20.ob, p, _, _, _, rfl, ⟨_, _, _, _, hP20⟩, .inl ⟨p, _, _, rfl, ⟨_, _, _, _, hP20⟩, ?_⟩⟩
            rw [show mEq (sm (mEs es)) (sm (mEs es)) = true from (mEq_iff hP20.gd.nd).mpr ⟨rfl, fun e he => he⟩]
            refine ⟨_, rfl, ?_⟩
            refine ⟨_, rfl, ?_⟩
            refine ifF rfl ?_
            exact ⟨⟨_, _, _, _, _, _, _, _, _, rfl⟩, K20⟩
    · rintro σ H1 ⟨⟨y1, y2, y3, y4, y5, y6, y7, y8, y9, rfl⟩, K1⟩
      exact q H1
end
end K23
set_option Elab.async false
set_option linter.all false
set_option maxRecDepth 100000
set_option maxHeartbeats 8000000
local macro_rules | `(tactic| walk_at "sq") => `(tactic| first
  | (refine' FR.Ow.sq (i := 0) ?w ?e; (case w => assumption); (case e => rfl))
  | (refine' FR.Ow.sq (i := 1) ?w ?e; (case w => assumption); (case e => rfl))
  | (refine' FR.Ow.sq (i := 2) ?w ?e; (case w => assumption); (case e => rfl))
  | (refine' FR.Ow.sq (i := 3) ?w ?e; (case w => assumption); (case e => rfl))
  | (refine' FR.Ow.sq (i := 4) ?w ?e; (case w => assumption); (case e => rfl))
  | (refine' FR.Ow.sq (i := 5) ?w ?e; (case w => assumption); (case e => rfl))
  | (refine' FR.Ow.sq (i := 6) ?w ?e; (case w => assumption); (case e => rfl))
  | (refine' FR.Ow.sq (i := 7) ?w ?e; (case w => assumption); (case e => rfl))
  | (refine' FR.Ow.sq (i := 8) ?w ?e; (case w => assumption); (case e => rfl))
  | (refine' FR.Ow.sq (i := 9) ?w ?e; (case w => assumption); (case e => rfl))
  | (refine' FR.Ow.sq (i := 10) ?w ?e; (case w => assumption); (case e => rfl))
  | (refine' FR.Ow.sq (i := 11) ?w ?e; (case w => assumption); (case e => rfl))
  | (refine' FR.Ow.sq (i := 12) ?w ?e; (case w => assumption); (case e => rfl))
  | (refine' FR.Ow.sq (i := 13) ?w ?e; (case w => assumption); (case e => rfl))
  | assumption)
local macro_rules | `(tactic| walk_at "hp") => `(tactic| first
  | (refine' FR.Ow.get (i := 0) ?w ?e; (case w => assumption); (case e => rfl))
  | (refine' FR.Ow.get (i := 1) ?w ?e; (case w => assumption); (case e => rfl))
  | (refine' FR.Ow.get (i := 2) ?w ?e; (case w => assumption); (case e => rfl))
  | (refine' FR.Ow.get (i := 3) ?w ?e; (case w => assumption); (case e => rfl))
  | (refine' FR.Ow.get (i := 4) ?w ?e; (case w => assumption); (case e => rfl))
  | (refine' FR.Ow.get (i := 5) ?w ?e; (case w => assumption); (case e => rfl))
  | (refine' FR.Ow.get (i := 6) ?w ?e; (case w => assumption); (case e => rfl))
  | (refine' FR.Ow.get (i := 7) ?w ?e; (case w => assumption); (case e => rfl))
  | (refine' FR.Ow.get (i := 8) ?w ?e; (case w => assumption); (case e => rfl))
  | (refine' FR.Ow.get (i := 9) ?w ?e; (case w => assumption); (case e => rfl))
  | (refine' FR.Ow.get (i := 10) ?w ?e; (case w => assumption); (case e => rfl))
  | (refine' FR.Ow.get (i := 11) ?w ?e; (case w => assumption); (case e => rfl))
  | (refine' FR.Ow.get (i := 12) ?w ?e; (case w => assumption); (case e => rfl))
  | (refine' FR.Ow.get (i := 13) ?w ?e; (case w => assumption); (case e => rfl))
  | assumption)
local macro_rules | `(tactic| walk_at "ar") => `(tactic| first | assumption | omega | decide)
local macro_rules | `(tactic| walk_at "cd") => `(tactic| first
  | assumption | (with_reducible rfl) | exact (rfl : List.length _ = _) | (dsimp only; walk_at "ar") | walk_at "ar"
  | (refine And.intro (a := (_ : Int) < _) ?_ ?_ <;> walk_at "ar")
  | (refine And.intro (a := (0 : Int) ≤ _) ?_ (And.intro ?_ ?_) <;> walk_at "ar")
  | exact FR.size_le (by omega) | exact FR.size_ok (by omega)
  | (refine Or.inl (And.intro ?_ ?_) <;> walk_at "ar")
  | (refine Or.inr (And.intro ?_ ?_) <;> walk_at "ar"))
local macro_rules | `(tactic| walk_at "ty") => `(tactic| first
  | exact L2.TyOf.int _
  | exact L2.TyOf.str _
  | exact L2.TyOf.bl _
  | exact L2.TyOf.non
  | (refine' L2.TyOf.lst ?e; (case e => walk_at "hp"))
  | (refine' L2.TyOf.tup ?e; (case e => walk_at "hp"))
  | (refine' L2.TyOf.dK ?e; (case e => walk_at "hp")))
local macro_rules | `(tactic| walk_at "kit") => `(tactic| first
  | exact FR.ki_int_str
  | exact FR.ki_int_int
  | exact FR.ki_int_bool
  | exact FR.ki_int_list
  | exact FR.ki_int_tuple
  | exact FR.ki_int_dict
  | exact FR.ki_str_str
  | exact FR.ki_str_int
  | exact FR.ki_str_bool
  | exact FR.ki_str_list
  | exact FR.ki_str_tuple
  | exact FR.ki_str_dict
  | exact FR.ki_bl_str
  | exact FR.ki_bl_int
  | exact FR.ki_bl_bool
  | exact FR.ki_bl_list
  | exact FR.ki_bl_tuple
  | exact FR.ki_bl_dict
  | exact FR.ki_non_str
  | exact FR.ki_non_int
  | exact FR.ki_non_bool
  | exact FR.ki_non_list
  | exact FR.ki_non_tuple
  | exact FR.ki_non_dict
  | exact FR.ki_lst_str
  | exact FR.ki_lst_int
  | exact FR.ki_lst_bool
  | exact FR.ki_lst_list
  | exact FR.ki_lst_tuple
  | exact FR.ki_lst_dict
  | exact FR.ki_tup_str
  | exact FR.ki_tup_int
  | exact FR.ki_tup_bool
  | exact FR.ki_tup_list
  | exact FR.ki_tup_tuple
  | exact FR.ki_tup_dict
  | exact FR.ki_dK_str
  | exact FR.ki_dK_int
  | exact FR.ki_dK_bool
  | exact FR.ki_dK_list
  | exact FR.ki_dK_tuple
  | exact FR.ki_dK_dict)
local macro_rules | `(tactic| walk_at "isi") => `(tactic| (refine' ⟨_, _, _, _, _, rfl, L2.ClsV.ty _, L2.TyX.base ?k1, L2.kit_ty ?k2, ?k3⟩; (case k1 => walk_at "ty"); (case k2 => walk_at "kit")))
local macro_rules | `(tactic| walk_at "w1") => `(tactic| first
  | (refine' FR.with1 0 ?k1 ?k2 (by assumption) (by assumption) ?k3; (case k1 => assumption); (case k2 => rfl); intro W)
  | (refine' FR.with1 1 ?k1 ?k2 (by assumption) (by assumption) ?k3; (case k1 => assumption); (case k2 => rfl); intro W)
  | (refine' FR.with1 2 ?k1 ?k2 (by assumption) (by assumption) ?k3; (case k1 => assumption); (case k2 => rfl); intro W)
  | (refine' FR.with1 3 ?k1 ?k2 (by assumption) (by assumption) ?k3; (case k1 => assumption); (case k2 => rfl); intro W)
  | (refine' FR.with1 4 ?k1 ?k2 (by assumption) (by assumption) ?k3; (case k1 => assumption); (case k2 => rfl); intro W)
  | (refine' FR.with1 5 ?k1 ?k2 (by assumption) (by assumption) ?k3; (case k1 => assumption); (case k2 => rfl); intro W)
  | (refine' FR.with1 6 ?k1 ?k2 (by assumption) (by assumption) ?k3; (case k1 => assumption); (case k2 => rfl); intro W)
  | (refine' FR.with1 7 ?k1 ?k2 (by assumption) (by assumption) ?k3; (case k1 => assumption); (case k2 => rfl); intro W)
  | (refine' FR.with1 8 ?k1 ?k2 (by assumption) (by assumption) ?k3; (case k1 => assumption); (case k2 => rfl); intro W)
  | (refine' FR.with1 9 ?k1 ?k2 (by assumption) (by assumption) ?k3; (case k1 => assumption); (case k2 => rfl); intro W)
  | (refine' FR.with1 10 ?k1 ?k2 (by assumption) (by assumption) ?k3; (case k1 => assumption); (case k2 => rfl); intro W)
  | (refine' FR.with1 11 ?k1 ?k2 (by assumption) (by assumption) ?k3; (case k1 => assumption); (case k2 => rfl); intro W)
  | (refine' FR.with1 12 ?k1 ?k2 (by assumption) (by assumption) ?k3; (case k1 => assumption); (case k2 => rfl); intro W)
  | (refine' FR.with1 13 ?k1 ?k2 (by assumption) (by assumption) ?k3; (case k1 => assumption); (case k2 => rfl); intro W))
local macro_rules | `(tactic| walk_at "obj") => `(tactic| first
  | (refine FR.NewO.mk ?_; intro p H np kp hp; refine' FR.withN ?k1 np kp hp ?k2; (case k1 => assumption); intro W)
  | (refine FR.MutO.mk ?_; intro H kp hp; walk_at "w1"))
local macro_rules | `(tactic| walk_at "sz") => `(tactic| exact FR.size_ok (by (try simp only [List.length_map, List.length_append, List.length_cons, List.length_nil]); omega))
local macro_rules | `(tactic| walk_at "rd1") => `(tactic| first
  | (refine ⟨_, rfl, ?_⟩)
  | (refine ⟨_, _, rfl, rfl, ?_⟩)
  | (refine ⟨_, _, rfl, ?_⟩)
  | (refine' ⟨_, _, _, _, rfl, rfl, ?k1, ?k2, ?k3⟩; (case k1 => walk_at "hp"); (case k2 => rfl); walk_at "obj")
  | (refine' ⟨_, _, _, _, rfl, rfl, ?k1, ?k2, ?k3⟩; (case k1 => walk_at "sq"); (case k2 => rfl))
  | walk_at "obj"
  | (refine' ⟨_, _, _, rfl, rfl, ?k1, ?k2, ?k3⟩; (case k1 => walk_at "hp"); (case k2 => walk_at "sz"); walk_at "obj")
  | (refine And.intro (show List.length _ ≤ PySem.sizeLine from Nat.le_of_ble_eq_true rfl) ?_; walk_at "obj")
  | (refine' ⟨_, _, rfl, Or.inl ?k1, ?k2⟩; (case k1 => walk_at "sq"))
  | (refine FR.ifT rfl ?_) | (refine FR.ifF rfl ?_)
  | (refine And.intro (show L2.scal _ _ = true from rfl) ?_)
  | (refine And.intro (show L2.tyV _ "str" (L2.V.str _) _ from rfl) ?_)
  | (refine' And.intro (show L2.tyV _ "list" (L2.V.ref _) _ from Or.inl ⟨rfl, _, ?k1⟩) ?k2; (case k1 => walk_at "sq"))
  | (refine And.intro (Exists.intro _ rfl) ?_)
  | (refine And.intro (show L2.wipe _ _ = L2.wipe _ _ from rfl) ?_)
  | (refine And.intro (by walk_at "cd") ?_)
  | walk_at "isi")
local macro_rules | `(tactic| walk_at "rd") => `(tactic| repeat walk_at "rd1")
local macro_rules | `(tactic| walk_at "take") => `(tactic| (refine' ⟨_, _, _, _, _, _, rfl, ?k1, ?k2, ?k3, ?k4, ?k5, ?k6⟩; (case k1 => walk_at "hp"); (case k2 => assumption); (case k3 => omega); (case k4 => first | decide | omega); (case k5 => first | decide | omega); intro d x y z H d0 d1 ok kp hb; walk_at "w1"))
namespace K23
open PySem PySem.Spec PyProof.Rows L2 FR TL
theorem all_mk {P : Program} {w : World} {K : PySem.W.Frag} {h : Heap} {mg : Str → Option Value} {fa : Addr} (X : K.In h) (G : h.Ns mainGlobals mg) (hfa : mg "law" = some (.ref fa))
    {O0 : Addr} {cdo0 : ClassData}
    {f0 : Addr} {od0 an0 : Option Addr} {sl0 : Array (Option Value)} {oc0 kV0 dc0 pm0 cd0 ct0 : Value}
    {f1 : Addr} {od1 an1 : Option Addr} {sl1 : Array (Option Value)} {oc1 kV1 dc1 pm1 cd1 ct1 : Value}
    {f2 : Addr} {od2 an2 : Option Addr} {sl2 : Array (Option Value)} {oc2 kV2 dc2 pm2 cd2 ct2 : Value}
    {f3 : Addr} {od3 an3 : Option Addr} {sl3 : Array (Option Value)} {oc3 kV3 dc3 pm3 cd3 ct3 : Value}
    {f4 : Addr} {od4 an4 : Option Addr} {sl4 : Array (Option Value)} {oc4 kV4 dc4 pm4 cd4 ct4 : Value}
    {f5 : Addr} {od5 an5 : Option Addr} {sl5 : Array (Option Value)} {oc5 kV5 dc5 pm5 cd5 ct5 : Value}
    {f6 : Addr} {od6 an6 : Option Addr} {sl6 : Array (Option Value)} {oc6 kV6 dc6 pm6 cd6 ct6 : Value}
    {f7 : Addr} {od7 an7 : Option Addr} {sl7 : Array (Option Value)} {oc7 kV7 dc7 pm7 cd7 ct7 : Value}
    {f8 : Addr} {od8 an8 : Option Addr} {sl8 : Array (Option Value)} {oc8 kV8 dc8 pm8 cd8 ct8 : Value}
    {f9 : Addr} {od9 an9 : Option Addr} {sl9 : Array (Option Value)} {oc9 kV9 dc9 pm9 cd9 ct9 : Value}
    {f10 : Addr} {od10 an10 : Option Addr} {sl10 : Array (Option Value)} {oc10 kV10 dc10 pm10 cd10 ct10 : Value}
    {f11 : Addr} {od11 an11 : Option Addr} {sl11 : Array (Option Value)} {oc11 kV11 dc11 pm11 cd11 ct11 : Value}
    {f12 : Addr} {od12 an12 : Option Addr} {sl12 : Array (Option Value)} {oc12 kV12 dc12 pm12 cd12 ct12 : Value}
    {f13 : Addr} {od13 an13 : Option Addr} {sl13 : Array (Option Value)} {oc13 kV13 dc13 pm13 cd13 ct13 : Value}
    {f14 : Addr} {od14 an14 : Option Addr} {sl14 : Array (Option Value)} {oc14 kV14 dc14 pm14 cd14 ct14 : Value}
    {f15 : Addr} {od15 an15 : Option Addr} {sl15 : Array (Option Value)} {oc15 kV15 dc15 pm15 cd15 ct15 : Value}
    {f16 : Addr} {od16 an16 : Option Addr} {sl16 : Array (Option Value)} {oc16 kV16 dc16 pm16 cd16 ct16 : Value}
    {f17 : Addr} {od17 an17 : Option Addr} {sl17 : Array (Option Value)} {oc17 kV17 dc17 pm17 cd17 ct17 : Value}
    {f18 : Addr} {od18 an18 : Option Addr} {sl18 : Array (Option Value)} {oc18 kV18 dc18 pm18 cd18 ct18 : Value}
    {f19 : Addr} {od19 an19 : Option Addr} {sl19 : Array (Option Value)} {oc19 kV19 dc19 pm19 cd19 ct19 : Value}
    {f20 : Addr} {od20 an20 : Option Addr} {sl20 : Array (Option Value)} {oc20 kV20 dc20 pm20 cd20 ct20 : Value}
    {f21 : Addr} {od21 an21 : Option Addr} {sl21 : Array (Option Value)} {oc21 kV21 dc21 pm21 cd21 ct21 : Value}
    {f22 : Addr} {od22 an22 : Option Addr} {sl22 : Array (Option Value)} {oc22 kV22 dc22 pm22 cd22 ct22 : Value}
    {f23 : Addr} {od23 an23 : Option Addr} {sl23 : Array (Option Value)} {oc23 kV23 dc23 pm23 cd23 ct23 : Value}
    {tc0 : Tok}
    {tc1 : Tok}
    {tc2 : Tok}
    (oa0 : PySem.W.nsIn K mainGlobals "People" = some (some (.ref O0)))
    (opg0 : PySem.W.plainGet K O0 Str.empty = true)
    (ohd0 : PySem.W.hasDictIn K O0 = true)
    (opo0 : PySem.W.plainOver K O0 = true)
    (osa0 : PySem.W.findIn K (.ref O0) "__setattr__" = some (some (.builtin "object.__setattr__")))
    (omk0 : PySem.W.makesIn K O0 = true)
    (okc0 : PySem.W.keepIn K (.ref O0) = true)
    (oca0 : PySem.W.findIn K (.ref O0) "__class__" = some (some (.builtin "object.__class__")))
    (ocn0 : PySem.W.specialIn K (.builtin "object.__class__") "__get__" = some (some (.builtin "getset_descriptor.__get__")))
    (oct0 : PySem.W.takesIn K (.builtin "object.__class__") = some true)
    (ocm0 : PySem.W.mroIn K O0 (.type "object") = some true)
    (osf0 : PySem.W.selfFirst K O0 = true)
    (ocd0 : PySem.W.clsIn K O0 = some cdo0)
    (omr0 : cdo0.mro = [.ref O0, .type "object"])
    (one0 : PySem.W.findIn K (.ref O0) "__ne__" = some (some (.builtin "object.__ne__")))
    (ona_held0 : PySem.W.findIn K (.ref O0) "_held" = some none)
    (ona_groups0 : PySem.W.findIn K (.ref O0) "_groups" = some none)
    (onfdict0 : PySem.W.notFirst K O0 (.type "dict") = true)
    (onfint0 : PySem.W.notFirst K O0 (.type "int") = true)
    (oic0 : PySem.W.isClsIn K O0 = true)
    (oyt0 : PySem.W.typeIn K (.ref O0) = some (.type "type"))
    (oktdict0 : PySem.W.subIn K (.type "dict") (.ref O0) = some false)
    (oktint0 : PySem.W.subIn K (.type "int") (.ref O0) = some false)
    (a0 : PySem.W.nsIn K mainGlobals "is_name" = some (some (.ref f0)))
    (l0 : K.lookup f0 = some ⟨oc0, od0, .func (PySem.W.fnOf "is_name" "is_name" (defArgs s_is_name) (defBody s_is_name) (defScope s_is_name) .none kV0 dc0 pm0 an0 cd0 ct0), sl0⟩)
    (c0 : PySem.W.codeIn K cd0 "is_name" = true) (k0 : PySem.W.keepIn K (.ref f0) = true)
    (a1 : PySem.W.nsIn K mainGlobals "is_user_name" = some (some (.ref f1)))
    (l1 : K.lookup f1 = some ⟨oc1, od1, .func (PySem.W.fnOf "is_user_name" "is_user_name" (defArgs s_is_user_name) (defBody s_is_user_name) (defScope s_is_user_name) .none kV1 dc1 pm1 an1 cd1 ct1), sl1⟩)
    (c1 : PySem.W.codeIn K cd1 "is_user_name" = true) (k1 : PySem.W.keepIn K (.ref f1) = true)
    (a2 : PySem.W.nsIn K mainGlobals "is_list" = some (some (.ref f2)))
    (l2 : K.lookup f2 = some ⟨oc2, od2, .func (PySem.W.fnOf "is_list" "is_list" (defArgs s_is_list) (defBody s_is_list) (defScope s_is_list) .none kV2 dc2 pm2 an2 cd2 ct2), sl2⟩)
    (c2 : PySem.W.codeIn K cd2 "is_list" = true) (k2 : PySem.W.keepIn K (.ref f2) = true)
    (a3 : PySem.W.nsIn K mainGlobals "_are_users" = some (some (.ref f3)))
    (l3 : K.lookup f3 = some ⟨oc3, od3, .func (PySem.W.fnOf "_are_users" "_are_users" (defArgs s__are_users) (defBody s__are_users) (defScope s__are_users) .none kV3 dc3 pm3 an3 cd3 ct3), sl3⟩)
    (c3 : PySem.W.codeIn K cd3 "_are_users" = true) (k3 : PySem.W.keepIn K (.ref f3) = true)
    (a4 : PySem.W.nsIn K mainGlobals "_are_groups" = some (some (.ref f4)))
    (l4 : K.lookup f4 = some ⟨oc4, od4, .func (PySem.W.fnOf "_are_groups" "_are_groups" (defArgs s__are_groups) (defBody s__are_groups) (defScope s__are_groups) .none kV4 dc4 pm4 an4 cd4 ct4), sl4⟩)
    (c4 : PySem.W.codeIn K cd4 "_are_groups" = true) (k4 : PySem.W.keepIn K (.ref f4) = true)
    (a5 : PySem.W.nsIn K mainGlobals "_law_cell" = some (some (.ref f5)))
    (l5 : K.lookup f5 = some ⟨oc5, od5, .func (PySem.W.fnOf "_law_cell" "_law_cell" (defArgs s_cell) (defBody s_cell) (defScope s_cell) .none kV5 dc5 pm5 an5 cd5 ct5), sl5⟩)
    (c5 : PySem.W.codeIn K cd5 "_law_cell" = true) (k5 : PySem.W.keepIn K (.ref f5) = true)
    (a6 : PySem.W.nsIn K mainGlobals "_law_bag" = some (some (.ref f6)))
    (l6 : K.lookup f6 = some ⟨oc6, od6, .func (PySem.W.fnOf "_law_bag" "_law_bag" (defArgs s_bag) (defBody s_bag) (defScope s_bag) .none kV6 dc6 pm6 an6 cd6 ct6), sl6⟩)
    (c6 : PySem.W.codeIn K cd6 "_law_bag" = true) (k6 : PySem.W.keepIn K (.ref f6) = true)
    (a7 : PySem.W.nsIn K mainGlobals "_law_take" = some (some (.ref f7)))
    (l7 : K.lookup f7 = some ⟨oc7, od7, .func (PySem.W.fnOf "_law_take" "_law_take" (defArgs s_take) (defBody s_take) (defScope s_take) .none kV7 dc7 pm7 an7 cd7 ct7), sl7⟩)
    (c7 : PySem.W.codeIn K cd7 "_law_take" = true) (k7 : PySem.W.keepIn K (.ref f7) = true)
    (a8 : PySem.W.nsIn K mainGlobals "_law_names" = some (some (.ref f8)))
    (l8 : K.lookup f8 = some ⟨oc8, od8, .func (PySem.W.fnOf "_law_names" "_law_names" (defArgs s_names) (defBody s_names) (defScope s_names) .none kV8 dc8 pm8 an8 cd8 ct8), sl8⟩)
    (c8 : PySem.W.codeIn K cd8 "_law_names" = true) (k8 : PySem.W.keepIn K (.ref f8) = true)
    (a9 : PySem.W.nsIn K mainGlobals "_law_members" = some (some (.ref f9)))
    (l9 : K.lookup f9 = some ⟨oc9, od9, .func (PySem.W.fnOf "_law_members" "_law_members" (defArgs s_members) (defBody s_members) (defScope s_members) .none kV9 dc9 pm9 an9 cd9 ct9), sl9⟩)
    (c9 : PySem.W.codeIn K cd9 "_law_members" = true) (k9 : PySem.W.keepIn K (.ref f9) = true)
    (a10 : PySem.W.nsIn K mainGlobals "_law_all_groups" = some (some (.ref f10)))
    (l10 : K.lookup f10 = some ⟨oc10, od10, .func (PySem.W.fnOf "_law_all_groups" "_law_all_groups" (defArgs s_all_groups) (defBody s_all_groups) (defScope s_all_groups) .none kV10 dc10 pm10 an10 cd10 ct10), sl10⟩)
    (c10 : PySem.W.codeIn K cd10 "_law_all_groups" = true) (k10 : PySem.W.keepIn K (.ref f10) = true)
    (a11 : PySem.W.nsIn K mainGlobals "_law_right" = some (some (.ref f11)))
    (l11 : K.lookup f11 = some ⟨oc11, od11, .func (PySem.W.fnOf "_law_right" "_law_right" (defArgs s_right) (defBody s_right) (defScope s_right) .none kV11 dc11 pm11 an11 cd11 ct11), sl11⟩)
    (c11 : PySem.W.codeIn K cd11 "_law_right" = true) (k11 : PySem.W.keepIn K (.ref f11) = true)
    (a12 : PySem.W.nsIn K mainGlobals "_law_fresh_right" = some (some (.ref f12)))
    (l12 : K.lookup f12 = some ⟨oc12, od12, .func (PySem.W.fnOf "_law_fresh_right" "_law_fresh_right" (defArgs s_fresh_right) (defBody s_fresh_right) (defScope s_fresh_right) .none kV12 dc12 pm12 an12 cd12 ct12), sl12⟩)
    (c12 : PySem.W.codeIn K cd12 "_law_fresh_right" = true) (k12 : PySem.W.keepIn K (.ref f12) = true)
    (a13 : PySem.W.nsIn K mainGlobals "_law_changed" = some (some (.ref f13)))
    (l13 : K.lookup f13 = some ⟨oc13, od13, .func (PySem.W.fnOf "_law_changed" "_law_changed" (defArgs s_changed) (defBody s_changed) (defScope s_changed) .none kV13 dc13 pm13 an13 cd13 ct13), sl13⟩)
    (c13 : PySem.W.codeIn K cd13 "_law_changed" = true) (k13 : PySem.W.keepIn K (.ref f13) = true)
    (a14 : PySem.W.nsIn K mainGlobals "law" = some (some (.ref f14)))
    (l14 : K.lookup f14 = some ⟨oc14, od14, .func (PySem.W.fnOf "law" "law" (defArgs s_law) (defBody s_law) (defScope s_law) .none kV14 dc14 pm14 an14 cd14 ct14), sl14⟩)
    (c14 : PySem.W.codeIn K cd14 "law" = true) (k14 : PySem.W.keepIn K (.ref f14) = true)
    (a15 : PySem.W.findIn K (.ref O0) "__init__" = some (some (.ref f15)))
    (t15 : PySem.W.isFn K (.ref f15) = true)
    (l15 : K.lookup f15 = some ⟨oc15, od15, .func (PySem.W.fnOf "__init__" "People.__init__" (defArgs s_People___init__) (defBody s_People___init__) (defScope s_People___init__) .none kV15 dc15 pm15 an15 cd15 ct15), sl15⟩)
    (c15 : PySem.W.codeIn K cd15 "People.__init__" = true)
    (k15 : PySem.W.keepIn K (.ref f15) = true)
    (a16 : PySem.W.findIn K (.ref O0) "users" = some (some (.ref f16)))
    (t16 : PySem.W.isFn K (.ref f16) = true)
    (l16 : K.lookup f16 = some ⟨oc16, od16, .func (PySem.W.fnOf "users" "People.users" (defArgs s_People_users) (defBody s_People_users) (defScope s_People_users) .none kV16 dc16 pm16 an16 cd16 ct16), sl16⟩)
    (c16 : PySem.W.codeIn K cd16 "People.users" = true)
    (k16 : PySem.W.keepIn K (.ref f16) = true)
    (a17 : PySem.W.findIn K (.ref O0) "groups" = some (some (.ref f17)))
    (t17 : PySem.W.isFn K (.ref f17) = true)
    (l17 : K.lookup f17 = some ⟨oc17, od17, .func (PySem.W.fnOf "groups" "People.groups" (defArgs s_People_groups) (defBody s_People_groups) (defScope s_People_groups) .none kV17 dc17 pm17 an17 cd17 ct17), sl17⟩)
    (c17 : PySem.W.codeIn K cd17 "People.groups" = true)
    (k17 : PySem.W.keepIn K (.ref f17) = true)
    (a18 : PySem.W.findIn K (.ref O0) "groups_of" = some (some (.ref f18)))
    (t18 : PySem.W.isFn K (.ref f18) = true)
    (l18 : K.lookup f18 = some ⟨oc18, od18, .func (PySem.W.fnOf "groups_of" "People.groups_of" (defArgs s_People_groups_of) (defBody s_People_groups_of) (defScope s_People_groups_of) .none kV18 dc18 pm18 an18 cd18 ct18), sl18⟩)
    (c18 : PySem.W.codeIn K cd18 "People.groups_of" = true)
    (k18 : PySem.W.keepIn K (.ref f18) = true)
    (a19 : PySem.W.findIn K (.ref O0) "first_group" = some (some (.ref f19)))
    (t19 : PySem.W.isFn K (.ref f19) = true)
    (l19 : K.lookup f19 = some ⟨oc19, od19, .func (PySem.W.fnOf "first_group" "People.first_group" (defArgs s_People_first_group) (defBody s_People_first_group) (defScope s_People_first_group) .none kV19 dc19 pm19 an19 cd19 ct19), sl19⟩)
    (c19 : PySem.W.codeIn K cd19 "People.first_group" = true)
    (k19 : PySem.W.keepIn K (.ref f19) = true)
    (a20 : PySem.W.findIn K (.ref O0) "members" = some (some (.ref f20)))
    (t20 : PySem.W.isFn K (.ref f20) = true)
    (l20 : K.lookup f20 = some ⟨oc20, od20, .func (PySem.W.fnOf "members" "People.members" (defArgs s_People_members) (defBody s_People_members) (defScope s_People_members) .none kV20 dc20 pm20 an20 cd20 ct20), sl20⟩)
    (c20 : PySem.W.codeIn K cd20 "People.members" = true)
    (k20 : PySem.W.keepIn K (.ref f20) = true)
    (a21 : PySem.W.findIn K (.ref O0) "__contains__" = some (some (.ref f21)))
    (t21 : PySem.W.isFn K (.ref f21) = true)
    (l21 : K.lookup f21 = some ⟨oc21, od21, .func (PySem.W.fnOf "__contains__" "People.__contains__" (defArgs s_People___contains__) (defBody s_People___contains__) (defScope s_People___contains__) .none kV21 dc21 pm21 an21 cd21 ct21), sl21⟩)
    (c21 : PySem.W.codeIn K cd21 "People.__contains__" = true)
    (k21 : PySem.W.keepIn K (.ref f21) = true)
    (a22 : PySem.W.findIn K (.ref O0) "__len__" = some (some (.ref f22)))
    (t22 : PySem.W.isFn K (.ref f22) = true)
    (l22 : K.lookup f22 = some ⟨oc22, od22, .func (PySem.W.fnOf "__len__" "People.__len__" (defArgs s_People___len__) (defBody s_People___len__) (defScope s_People___len__) .none kV22 dc22 pm22 an22 cd22 ct22), sl22⟩)
    (c22 : PySem.W.codeIn K cd22 "People.__len__" = true)
    (k22 : PySem.W.keepIn K (.ref f22) = true)
    (a23 : PySem.W.findIn K (.ref O0) "__eq__" = some (some (.ref f23)))
    (t23 : PySem.W.isFn K (.ref f23) = true)
    (l23 : K.lookup f23 = some ⟨oc23, od23, .func (PySem.W.fnOf "__eq__" "People.__eq__" (defArgs s_People___eq__) (defBody s_People___eq__) (defScope s_People___eq__) .none kV23 dc23 pm23 an23 cd23 ct23), sl23⟩)
    (c23 : PySem.W.codeIn K cd23 "People.__eq__" = true)
    (k23 : PySem.W.keepIn K (.ref f23) = true)
    (q0 : PySem.W.nsIn K mainGlobals "LONGEST_NAME" = some (some (.int 8 tc0)))
    (q1 : PySem.W.nsIn K mainGlobals "MOST_USERS" = some (some (.int 6 tc1)))
    (q2 : PySem.W.nsIn K mainGlobals "MOST_GROUPS" = some (some (.int 6 tc2)))
    (z0 : PySem.W.nsIn K mainGlobals "all" = some none)
    (z1 : PySem.W.nsIn K mainGlobals "dict" = some none)
    (z2 : PySem.W.nsIn K mainGlobals "int" = some none)
    (z3 : PySem.W.nsIn K mainGlobals "isinstance" = some none)
    (z4 : PySem.W.nsIn K mainGlobals "len" = some none)
    (z5 : PySem.W.nsIn K mainGlobals "list" = some none)
    (z6 : PySem.W.nsIn K mainGlobals "max" = some none)
    (z7 : PySem.W.nsIn K mainGlobals "min" = some none)
    (z8 : PySem.W.nsIn K mainGlobals "range" = some none)
    (z9 : PySem.W.nsIn K mainGlobals "reversed" = some none)
    (z10 : PySem.W.nsIn K mainGlobals "set" = some none)
    (z11 : PySem.W.nsIn K mainGlobals "sorted" = some none)
    (z12 : PySem.W.nsIn K mainGlobals "str" = some none)
    (z13 : PySem.W.nsIn K mainGlobals "sum" = some none)
    (z14 : PySem.W.nsIn K mainGlobals "tuple" = some none) :
    ∃ fd : FuncData, (∀ (s : Shared) (v : Value), BindsTo s fd ⟨[v], []⟩ [("_law_script", v)]) ∧ ∀ base : Heap, K.In base → base.Ns mainGlobals mg → FnOk P w K mg base CX0 6 fa fd ["_law_script"] (spLaw K) := by
  have e := hfa.symm.trans (PySem.W.mg_of X G a14)
  cases e
  let A : Ads := {
    C_People := O0
    f_is_name := f0
    d_is_name := PySem.W.fnOf "is_name" "is_name" (defArgs s_is_name) (defBody s_is_name) (defScope s_is_name) .none kV0 dc0 pm0 an0 cd0 ct0
    f_is_user_name := f1
    d_is_user_name := PySem.W.fnOf "is_user_name" "is_user_name" (defArgs s_is_user_name) (defBody s_is_user_name) (defScope s_is_user_name) .none kV1 dc1 pm1 an1 cd1 ct1
    f_is_list := f2
    d_is_list := PySem.W.fnOf "is_list" "is_list" (defArgs s_is_list) (defBody s_is_list) (defScope s_is_list) .none kV2 dc2 pm2 an2 cd2 ct2
    f__are_users := f3
    d__are_users := PySem.W.fnOf "_are_users" "_are_users" (defArgs s__are_users) (defBody s__are_users) (defScope s__are_users) .none kV3 dc3 pm3 an3 cd3 ct3
    f__are_groups := f4
    d__are_groups := PySem.W.fnOf "_are_groups" "_are_groups" (defArgs s__are_groups) (defBody s__are_groups) (defScope s__are_groups) .none kV4 dc4 pm4 an4 cd4 ct4
    f_cell := f5
    d_cell := PySem.W.fnOf "_law_cell" "_law_cell" (defArgs s_cell) (defBody s_cell) (defScope s_cell) .none kV5 dc5 pm5 an5 cd5 ct5
    f_bag := f6
    d_bag := PySem.W.fnOf "_law_bag" "_law_bag" (defArgs s_bag) (defBody s_bag) (defScope s_bag) .none kV6 dc6 pm6 an6 cd6 ct6
    f_take := f7
    d_take := PySem.W.fnOf "_law_take" "_law_take" (defArgs s_take) (defBody s_take) (defScope s_take) .none kV7 dc7 pm7 an7 cd7 ct7
    f_names := f8
    d_names := PySem.W.fnOf "_law_names" "_law_names" (defArgs s_names) (defBody s_names) (defScope s_names) .none kV8 dc8 pm8 an8 cd8 ct8
    f_members := f9
    d_members := PySem.W.fnOf "_law_members" "_law_members" (defArgs s_members) (defBody s_members) (defScope s_members) .none kV9 dc9 pm9 an9 cd9 ct9
    f_all_groups := f10
    d_all_groups := PySem.W.fnOf "_law_all_groups" "_law_all_groups" (defArgs s_all_groups) (defBody s_all_groups) (defScope s_all_groups) .none kV10 dc10 pm10 an10 cd10 ct10
    f_right := f11
    d_right := PySem.W.fnOf "_law_right" "_law_right" (defArgs s_right) (defBody s_right) (defScope s_right) .none kV11 dc11 pm11 an11 cd11 ct11
    f_fresh_right := f12
    d_fresh_right := PySem.W.fnOf "_law_fresh_right" "_law_fresh_right" (defArgs s_fresh_right) (defBody s_fresh_right) (defScope s_fresh_right) .none kV12 dc12 pm12 an12 cd12 ct12
    f_changed := f13
    d_changed := PySem.W.fnOf "_law_changed" "_law_changed" (defArgs s_changed) (defBody s_changed) (defScope s_changed) .none kV13 dc13 pm13 an13 cd13 ct13
    f_law := fa
    d_law := PySem.W.fnOf "law" "law" (defArgs s_law) (defBody s_law) (defScope s_law) .none kV14 dc14 pm14 an14 cd14 ct14
    f_People___init__ := f15
    d_People___init__ := PySem.W.fnOf "__init__" "People.__init__" (defArgs s_People___init__) (defBody s_People___init__) (defScope s_People___init__) .none kV15 dc15 pm15 an15 cd15 ct15
    f_People_users := f16
    d_People_users := PySem.W.fnOf "users" "People.users" (defArgs s_People_users) (defBody s_People_users) (defScope s_People_users) .none kV16 dc16 pm16 an16 cd16 ct16
    f_People_groups := f17
    d_People_groups := PySem.W.fnOf "groups" "People.groups" (defArgs s_People_groups) (defBody s_People_groups) (defScope s_People_groups) .none kV17 dc17 pm17 an17 cd17 ct17
    f_People_groups_of := f18
    d_People_groups_of := PySem.W.fnOf "groups_of" "People.groups_of" (defArgs s_People_groups_of) (defBody s_People_groups_of) (defScope s_People_groups_of) .none kV18 dc18 pm18 an18 cd18 ct18
    f_People_first_group := f19
    d_People_first_group := PySem.W.fnOf "first_group" "People.first_group" (defArgs s_People_first_group) (defBody s_People_first_group) (defScope s_People_first_group) .none kV19 dc19 pm19 an19 cd19 ct19
    f_People_members := f20
    d_People_members := PySem.W.fnOf "members" "People.members" (defArgs s_People_members) (defBody s_People_members) (defScope s_People_members) .none kV20 dc20 pm20 an20 cd20 ct20
    f_People___contains__ := f21
    d_People___contains__ := PySem.W.fnOf "__contains__" "People.__contains__" (defArgs s_People___contains__) (defBody s_People___contains__) (defScope s_People___contains__) .none kV21 dc21 pm21 an21 cd21 ct21
    f_People___len__ := f22
    d_People___len__ := PySem.W.fnOf "__len__" "People.__len__" (defArgs s_People___len__) (defBody s_People___len__) (defScope s_People___len__) .none kV22 dc22 pm22 an22 cd22 ct22
    f_People___eq__ := f23
    d_People___eq__ := PySem.W.fnOf "__eq__" "People.__eq__" (defArgs s_People___eq__) (defBody s_People___eq__) (defScope s_People___eq__) .none kV23 dc23 pm23 an23 cd23 ct23 }
  have T : Txt K mg A := {
    gC_People := PySem.W.mg_of X G oa0
    c_People := ⟨_, PySem.W.mg_of X G oa0, rfl⟩
    cl_People := ⟨opg0, ohd0, opo0, osa0⟩
    in_People := ⟨⟨opg0, ohd0, opo0, osa0⟩, oca0, ocn0, oct0, ocm0, by unfold PySem.W.kitOne; simp⟩
    sf_People := osf0
    cd_People := ⟨_, ocd0, omr0⟩
    ne_People := one0
    na_People__held := ona_held0
    na_People__groups := ona_groups0
    nf_People_dict := onfdict0
    nf_People_int := onfint0
    kt_People_dict := kit_ofT oic0 oyt0 oktdict0
    kt_People_int := kit_ofT oic0 oyt0 oktint0
    F_is_name := fun_mk l0 c0 k0
    B_is_name := (fun_mk (st := s_is_name) l0 c0 k0).binds (ps := ["value"]) fun _ _ _ _ _ _ us hl => match us, hl with | [_], _ => rfl
    g_is_name := PySem.W.mg_of X G a0
    F_is_user_name := fun_mk l1 c1 k1
    B_is_user_name := (fun_mk (st := s_is_user_name) l1 c1 k1).binds (ps := ["value"]) fun _ _ _ _ _ _ us hl => match us, hl with | [_], _ => rfl
    g_is_user_name := PySem.W.mg_of X G a1
    F_is_list := fun_mk l2 c2 k2
    B_is_list := (fun_mk (st := s_is_list) l2 c2 k2).binds (ps := ["value"]) fun _ _ _ _ _ _ us hl => match us, hl with | [_], _ => rfl
    g_is_list := PySem.W.mg_of X G a2
    F__are_users := fun_mk l3 c3 k3
    B__are_users := (fun_mk (st := s__are_users) l3 c3 k3).binds (ps := ["value"]) fun _ _ _ _ _ _ us hl => match us, hl with | [_], _ => rfl
    g__are_users := PySem.W.mg_of X G a3
    F__are_groups := fun_mk l4 c4 k4
    B__are_groups := (fun_mk (st := s__are_groups) l4 c4 k4).binds (ps := ["value"]) fun _ _ _ _ _ _ us hl => match us, hl with | [_], _ => rfl
    g__are_groups := PySem.W.mg_of X G a4
    F_cell := fun_mk l5 c5 k5
    B_cell := (fun_mk (st := s_cell) l5 c5 k5).binds (ps := ["_law_script", "_law_k"]) fun _ _ _ _ _ _ us hl => match us, hl with | [_, _], _ => rfl
    g_cell := PySem.W.mg_of X G a5
    F_bag := fun_mk l6 c6 k6
    B_bag := (fun_mk (st := s_bag) l6 c6 k6).binds (ps := ["_law_number"]) fun _ _ _ _ _ _ us hl => match us, hl with | [_], _ => rfl
    g_bag := PySem.W.mg_of X G a6
    F_take := fun_mk l7 c7 k7
    B_take := (fun_mk (st := s_take) l7 c7 k7).binds (ps := ["_law_bag_here", "_law_count"]) fun _ _ _ _ _ _ us hl => match us, hl with | [_, _], _ => rfl
    g_take := PySem.W.mg_of X G a7
    F_names := fun_mk l8 c8 k8
    B_names := (fun_mk (st := s_names) l8 c8 k8).binds (ps := ["_law_bag_here", "_law_many"]) fun _ _ _ _ _ _ us hl => match us, hl with | [_, _], _ => rfl
    g_names := PySem.W.mg_of X G a8
    F_members := fun_mk l9 c9 k9
    B_members := (fun_mk (st := s_members) l9 c9 k9).binds (ps := ["_law_bag_here"]) fun _ _ _ _ _ _ us hl => match us, hl with | [_], _ => rfl
    g_members := PySem.W.mg_of X G a9
    F_all_groups := fun_mk l10 c10 k10
    B_all_groups := (fun_mk (st := s_all_groups) l10 c10 k10).binds (ps := ["_law_members_one"]) fun _ _ _ _ _ _ us hl => match us, hl with | [_], _ => rfl
    g_all_groups := PySem.W.mg_of X G a10
    F_right := fun_mk l11 c11 k11
    B_right := (fun_mk (st := s_right) l11 c11 k11).binds (ps := ["_law_people", "_law_members_one"]) fun _ _ _ _ _ _ us hl => match us, hl with | [_, _], _ => rfl
    g_right := PySem.W.mg_of X G a11
    F_fresh_right := fun_mk l12 c12 k12
    B_fresh_right := (fun_mk (st := s_fresh_right) l12 c12 k12).binds (ps := ["_law_people", "_law_members_one"]) fun _ _ _ _ _ _ us hl => match us, hl with | [_, _], _ => rfl
    g_fresh_right := PySem.W.mg_of X G a12
    F_changed := fun_mk l13 c13 k13
    B_changed := (fun_mk (st := s_changed) l13 c13 k13).binds (ps := ["_law_bag_here", "_law_members_one"]) fun _ _ _ _ _ _ us hl => match us, hl with | [_, _], _ => rfl
    g_changed := PySem.W.mg_of X G a13
    F_law := fun_mk l14 c14 k14
    B_law := (fun_mk (st := s_law) l14 c14 k14).binds (ps := ["_law_script"]) fun _ _ _ _ _ _ us hl => match us, hl with | [_], _ => rfl
    g_law := PySem.W.mg_of X G a14
    F_People___init__ := fun_mk l15 c15 k15
    B_People___init__ := (fun_mk (st := s_People___init__) l15 c15 k15).binds (ps := ["self", "members"]) fun _ _ _ _ _ _ us hl => match us, hl with | [_, _], _ => rfl
    me_People___init__ := ⟨a15, t15, k15⟩
    mk_People := ⟨omk0, a15, t15, okc0⟩
    F_People_users := fun_mk l16 c16 k16
    B_People_users := (fun_mk (st := s_People_users) l16 c16 k16).binds (ps := ["self"]) fun _ _ _ _ _ _ us hl => match us, hl with | [_], _ => rfl
    me_People_users := ⟨a16, t16, k16⟩
    F_People_groups := fun_mk l17 c17 k17
    B_People_groups := (fun_mk (st := s_People_groups) l17 c17 k17).binds (ps := ["self"]) fun _ _ _ _ _ _ us hl => match us, hl with | [_], _ => rfl
    me_People_groups := ⟨a17, t17, k17⟩
    F_People_groups_of := fun_mk l18 c18 k18
    B_People_groups_of := (fun_mk (st := s_People_groups_of) l18 c18 k18).binds (ps := ["self", "user"]) fun _ _ _ _ _ _ us hl => match us, hl with | [_, _], _ => rfl
    me_People_groups_of := ⟨a18, t18, k18⟩
    F_People_first_group := fun_mk l19 c19 k19
    B_People_first_group := (fun_mk (st := s_People_first_group) l19 c19 k19).binds (ps := ["self", "user"]) fun _ _ _ _ _ _ us hl => match us, hl with | [_, _], _ => rfl
    me_People_first_group := ⟨a19, t19, k19⟩
    F_People_members := fun_mk l20 c20 k20
    B_People_members := (fun_mk (st := s_People_members) l20 c20 k20).binds (ps := ["self", "group"]) fun _ _ _ _ _ _ us hl => match us, hl with | [_, _], _ => rfl
    me_People_members := ⟨a20, t20, k20⟩
    F_People___contains__ := fun_mk l21 c21 k21
    B_People___contains__ := (fun_mk (st := s_People___contains__) l21 c21 k21).binds (ps := ["self", "value"]) fun _ _ _ _ _ _ us hl => match us, hl with | [_, _], _ => rfl
    me_People___contains__ := ⟨a21, t21, k21⟩
    F_People___len__ := fun_mk l22 c22 k22
    B_People___len__ := (fun_mk (st := s_People___len__) l22 c22 k22).binds (ps := ["self"]) fun _ _ _ _ _ _ us hl => match us, hl with | [_], _ => rfl
    me_People___len__ := ⟨a22, t22, k22⟩
    F_People___eq__ := fun_mk l23 c23 k23
    B_People___eq__ := (fun_mk (st := s_People___eq__) l23 c23 k23).binds (ps := ["self", "other"]) fun _ _ _ _ _ _ us hl => match us, hl with | [_, _], _ => rfl
    me_People___eq__ := ⟨a23, t23, k23⟩
    c_LONGEST_NAME := ⟨_, PySem.W.mg_of X G q0, _, rfl⟩
    c_MOST_USERS := ⟨_, PySem.W.mg_of X G q1, _, rfl⟩
    c_MOST_GROUPS := ⟨_, PySem.W.mg_of X G q2, _, rfl⟩
    b_all := PySem.W.mg_none_of X G z0
    b_dict := PySem.W.mg_none_of X G z1
    b_int := PySem.W.mg_none_of X G z2
    b_isinstance := PySem.W.mg_none_of X G z3
    b_len := PySem.W.mg_none_of X G z4
    b_list := PySem.W.mg_none_of X G z5
    b_max := PySem.W.mg_none_of X G z6
    b_min := PySem.W.mg_none_of X G z7
    b_range := PySem.W.mg_none_of X G z8
    b_reversed := PySem.W.mg_none_of X G z9
    b_set := PySem.W.mg_none_of X G z10
    b_sorted := PySem.W.mg_none_of X G z11
    b_str := PySem.W.mg_none_of X G z12
    b_sum := PySem.W.mg_none_of X G z13
    b_tuple := PySem.W.mg_none_of X G z14 }
  exact ⟨A.d_law, fun s v => .of_eq rfl, fun base _ _ => ok_law T⟩
end K23
open PySem PySem.W PyProof.Rows
set_option maxHeartbeats 0 in
theorem PySem.Challenge.cw_filerights_k23_people_told_holds : PySem.Challenge.rw_filerights_k23_people_told.Holds := by
  w_on; o_law; k_head; (case hw => w_witness2)
  k_fill
  refine L2.walk_of (l := PySem.Challenge.rw_filerights_k23_people_told) (n := 63) (k := 6) (x := "_law_script") (CX := fun _ => L2.CX0) (sp := fun w => K23.spLaw _) rfl (by decide) rfl ⟨rfl, by decide, by decide⟩ (fun w h Y => PySem.W.kIn_of Y) ?F (fun _ _ a ns hl _ hS => ⟨a, ns, rfl, hS, hl, fun _ => rfl⟩) (fun _ _ _ _ _ h => h)
  case F =>
    intro w mg fa h KX G hmg
    refine' K23.all_mk KX G hmg ?oa0 ?opg0 ?ohd0 ?opo0 ?osa0 ?omk0 ?okc0 ?oca0 ?ocn0 ?oct0 ?ocm0 ?osf0 ?ocd0 ?omr0 ?one0 ?ona_held0 ?ona_groups0 ?onfdict0 ?onfint0 ?oic0 ?oyt0 ?oktdict0 ?oktint0 ?a0 ?l0 ?c0 ?k0 ?a1 ?l1 ?c1 ?k1 ?a2 ?l2 ?c2 ?k2 ?a3 ?l3 ?c3 ?k3 ?a4 ?l4 ?c4 ?k4 ?a5 ?l5 ?c5 ?k5 ?a6 ?l6 ?c6 ?k6 ?a7 ?l7 ?c7 ?k7 ?a8 ?l8 ?c8 ?k8 ?a9 ?l9 ?c9 ?k9 ?a10 ?l10 ?c10 ?k10 ?a11 ?l11 ?c11 ?k11 ?a12 ?l12 ?c12 ?k12 ?a13 ?l13 ?c13 ?k13 ?a14 ?l14 ?c14 ?k14 ?a15 ?t15 ?l15 ?c15 ?k15 ?a16 ?t16 ?l16 ?c16 ?k16 ?a17 ?t17 ?l17 ?c17 ?k17 ?a18 ?t18 ?l18 ?c18 ?k18 ?a19 ?t19 ?l19 ?c19 ?k19 ?a20 ?t20 ?l20 ?c20 ?k20 ?a21 ?t21 ?l21 ?c21 ?k21 ?a22 ?t22 ?l22 ?c22 ?k22 ?a23 ?t23 ?l23 ?c23 ?k23 ?q0 ?q1 ?q2 ?z0 ?z1 ?z2 ?z3 ?z4 ?z5 ?z6 ?z7 ?z8 ?z9 ?z10 ?z11 ?z12 ?z13 ?z14
    (case oa0 => k_is)
    (case opg0 => k_is)
    (case ohd0 => k_is)
    (case opo0 => k_is)
    (case osa0 => k_is)
    (case omk0 => first | k_is | exact (by rfl) | exact FR.size_le (by decide) | decide | (repeat (first | exact True.intro | exact .nil | refine .cons ⟨_, rfl⟩ ?_ | refine ⟨⟨_, _, rfl, rfl⟩, ?_⟩)))
    (case okc0 => k_is)
    (case oca0 => k_is)
    (case ocn0 => k_is)
    (case oct0 => k_is)
    (case ocm0 => k_is)
    (case osf0 => k_is)
    (case ocd0 => k_is)
    (case omr0 => first | k_is | exact (by rfl) | exact FR.size_le (by decide) | decide | (repeat (first | exact True.intro | exact .nil | refine .cons ⟨_, rfl⟩ ?_ | refine ⟨⟨_, _, rfl, rfl⟩, ?_⟩)))
    (case one0 => k_is)
    (case ona_held0 => k_is)
    (case ona_groups0 => k_is)
    (case onfdict0 => k_is)
    (case onfint0 => k_is)
    (case oic0 => k_is)
    (case oyt0 => k_is)
    (case oktdict0 => k_is)
    (case oktint0 => k_is)
    (case a0 => k_is)
    (case l0 => k_is)
    (case c0 => k_is)
    (case k0 => k_is)
    (case a1 => k_is)
    (case l1 => k_is)
    (case c1 => k_is)
    (case k1 => k_is)
    (case a2 => k_is)
    (case l2 => k_is)
    (case c2 => k_is)
    (case k2 => k_is)
    (case a3 => k_is)
    (case l3 => k_is)
    (case c3 => k_is)
    (case k3 => k_is)
    (case a4 => k_is)
    (case l4 => k_is)
    (case c4 => k_is)
    (case k4 => k_is)
    (case a5 => k_is)
    (case l5 => k_is)
    (case c5 => k_is)
    (case k5 => k_is)
    (case a6 => k_is)
    (case l6 => k_is)
    (case c6 => k_is)
    (case k6 => k_is)
    (case a7 => k_is)
    (case l7 => k_is)
    (case c7 => k_is)
    (case k7 => k_is)
    (case a8 => k_is)
    (case l8 => k_is)
    (case c8 => k_is)
    (case k8 => k_is)
    (case a9 => k_is)
    (case l9 => k_is)
    (case c9 => k_is)
    (case k9 => k_is)
    (case a10 => k_is)
    (case l10 => k_is)
    (case c10 => k_is)
    (case k10 => k_is)
    (case a11 => k_is)
    (case l11 => k_is)
    (case c11 => k_is)
    (case k11 => k_is)
    (case a12 => k_is)
    (case l12 => k_is)
    (case c12 => k_is)
    (case k12 => k_is)
    (case a13 => k_is)
    (case l13 => k_is)
    (case c13 => k_is)
    (case k13 => k_is)
    (case a14 => k_is)
    (case l14 => k_is)
    (case c14 => k_is)
    (case k14 => k_is)
    (case a15 => k_is)
    (case t15 => k_is)
    (case l15 => k_is)
    (case c15 => k_is)
    (case k15 => k_is)
    (case a16 => k_is)
    (case t16 => k_is)
    (case l16 => k_is)
    (case c16 => k_is)
    (case k16 => k_is)
    (case a17 => k_is)
    (case t17 => k_is)
    (case l17 => k_is)
    (case c17 => k_is)
    (case k17 => k_is)
    (case a18 => k_is)
    (case t18 => k_is)
    (case l18 => k_is)
    (case c18 => k_is)
    (case k18 => k_is)
    (case a19 => k_is)
    (case t19 => k_is)
    (case l19 => k_is)
    (case c19 => k_is)
    (case k19 => k_is)
    (case a20 => k_is)
    (case t20 => k_is)
    (case l20 => k_is)
    (case c20 => k_is)
    (case k20 => k_is)
    (case a21 => k_is)
    (case t21 => k_is)
    (case l21 => k_is)
    (case c21 => k_is)
    (case k21 => k_is)
    (case a22 => k_is)
    (case t22 => k_is)
    (case l22 => k_is)
    (case c22 => k_is)
    (case k22 => k_is)
    (case a23 => k_is)
    (case t23 => k_is)
    (case l23 => k_is)
    (case c23 => k_is)
    (case k23 => k_is)
    (case q0 => k_is)
    (case q1 => k_is)
    (case q2 => k_is)
    (case z0 => k_is)
    (case z1 => k_is)
    (case z2 => k_is)
    (case z3 => k_is)
    (case z4 => k_is)
    (case z5 => k_is)
    (case z6 => k_is)
    (case z7 => k_is)
    (case z8 => k_is)
    (case z9 => k_is)
    (case z10 => k_is)
    (case z11 => k_is)
    (case z12 => k_is)
    (case z13 => k_is)
    (case z14 => k_is)
