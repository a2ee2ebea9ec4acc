import PyProof.Rows.All
import Wide.All
import OpenK.AllK
import Wide.FinOn
import HandS.ForMost
import HandS.IsInst
import HandS.Defaults
import HandS.StrMore
import HandS.Flow
import HandS.Codes
import HandS.EndBits
import HandS.Walk
import HandS.Replace
import HandS.Star
import HandS.TupLe
import HandS.ForExc
import HandS.TryMany
import HandS.ExcIs
import HandS.ExcField
import KE.OsGo
import KE.KExcIs
import HandS.Deep
import PyProof.EqKinds
import HandS.SlotsOwn
import KE.KOpsOwn
import HandS.Iter
import HandS.More
import HandS.SetTxt0
import HandS.Zip
import HandS.Conv
import PyProof.ListStr
import HandS.ReplaceDef
import HandS.ReplaceLit
import HandS.ReplaceList
import PyProof.Rows.Range3
import HandS.ClsMeth
import PyProof.P3In
import HandS.TupAny
import HandS.Lambda
import PyProof.CallFns
import PyProof.NeData
import HandS.EndTab
import KE.KUnpackStar
import HandS.DictTup
import KE.KDictList
import KE.KDictItemsList
import HandS.NoneIn
import HandS.Strs
import HandS.SetFor
import PyProof.WalksMore
import PyProof.WalksS
import HandS.Comp
import HandS.SetBool
import HandS.SortKw
import HandS.Style
import PyProof.SumWalk
import OpenK.KMeth
import HandS.DictComp
import PyProof.P3Eq
import HandS.Small
import HandS.Finally
import HandS.MakeKwOnly
import PyProof.InstEq
import PyProof.IsRules
import HandS.ExcOwn
import HandS.OwnEq
import PyProof.NeKinds
import HandS.MethStar
import HandS.Property
import PySem.Challenge.RW_filerights_k51_starts
set_option Elab.async false
set_option linter.all false
set_option maxRecDepth 100000
/-! own lemmas over the hand layer: what a def's body holds of the heap -/
namespace FR
open PySem PySem.Spec PyProof.Rows L2 TL
/-- all that was tracked, other than at M, is as it was -/
def Keep (M : List Addr) (H H' : Hp) : Prop := ∀ b o, H b = some o → b ∉ M → H' b = some o
theorem Keep.refl {M : List Addr} {H : Hp} : Keep M H H := fun _ _ h _ => h
theorem Keep.same {H H' : Hp} (k : Keep [] H H') : Same H H' := fun b o h => k b o h (by simp)
theorem Keep.of_same {H H' : Hp} (k : Same H H') : Keep [] H H' := fun b o h _ => k b o h
theorem Keep.free {H H' : Hp} (k : Keep [] H H') {p : Addr} (h : H' p = none) : H p = none := k.same.free h
/-- a body's heap: H0 at its entry, M what it may change, L what it holds -/
structure Ow (H0 : Hp) (M : List Addr) (H : Hp) (L : List (Addr × HO)) : Prop where
  keep : ∀ b o, H0 b = some o → b ∉ M → H b = some o
  has : ∀ p ∈ L, H p.1 = some p.2
  nd : (L.map (·.1)).Nodup
  fr : ∀ p ∈ L, H0 p.1 = none ∨ p.1 ∈ M
section
variable {H0 H H' : Hp} {M : List Addr} {L : List (Addr × HO)} {a p : Addr} {o o' : HO} {K : PySem.W.Frag} {xs : List V}
theorem Ow.start0 : Ow H [] H [] := ⟨fun _ _ h _ => h, fun _ h => by simp at h, by simp, fun _ h => by simp at h⟩
theorem Ow.start1 (h : H a = some o) : Ow H [a] H [(a, o)] := ⟨fun _ _ h _ => h, fun p hp => by simp at hp; subst hp; exact h, by simp, fun p hp => by simp at hp; subst hp; exact .inr (by simp)⟩
theorem Ow.get (W : Ow H0 M H L) (i : Nat) (e : L[i]? = some (a, o)) : H a = some o := W.has _ (List.mem_of_getElem? e)
theorem Ow.new (W : Ow H0 M H L) (h : H p = none) : Ow H0 M (upd H p o) ((p, o) :: L) where
  keep := fun b u e hb => by
    rw [upd_ne (ne_of_none (W.keep b u e hb) h)]
    exact W.keep b u e hb
  has := fun q hq => by
    rcases List.mem_cons.mp hq with rfl | hq
    · exact upd_same
    · rw [upd_ne (ne_of_none (W.has q hq) h)]
      exact W.has q hq
  nd := by
    rw [List.map_cons, List.nodup_cons]
    refine ⟨fun hm => ?_, W.nd⟩
    obtain ⟨q, hq, e⟩ := List.mem_map.mp hm
    have := W.has q hq
    rw [show q.1 = p from e, h] at this
    cases this
  fr := fun q hq => by
    rcases List.mem_cons.mp hq with rfl | hq
    · by_cases hm : p ∈ M
      · exact .inr hm
      · cases e : H0 p with
        | none => exact .inl rfl
        | some u =>
          have := W.keep p u e hm
          rw [h] at this
          cases this
    · exact W.fr q hq
theorem nd_of {α β : Type} [DecidableEq α] : ∀ {L : List (α × β)} {i : Nat} {x : α × β} {q : α × β}, (L.map (·.1)).Nodup → L[i]? = some x → q ∈ L → q.1 = x.1 → q = x
  | [], i, x, q, _, e, _, _ => by simp at e
  | y :: L, 0, x, q, hn, e, hq, h => by
    have e' : y = x := Option.some.inj e
    subst e'
    rcases List.mem_cons.mp hq with r | hq
    · exact r
    · rw [List.map_cons, List.nodup_cons] at hn
      exact absurd (List.mem_map.mpr ⟨q, hq, h⟩) hn.1
  | y :: L, i + 1, x, q, hn, e, hq, h => by
    rw [List.map_cons, List.nodup_cons] at hn
    have e' : L[i]? = some x := e
    rcases List.mem_cons.mp hq with r | hq
    · subst r
      exact absurd (List.mem_map.mpr ⟨x, List.mem_of_getElem? e', h.symm⟩) hn.1
    · exact nd_of hn.2 e' hq h
theorem map_set_fst {α β : Type} : ∀ {L : List (α × β)} {i : Nat} {a : α} {o o' : β}, L[i]? = some (a, o) → (L.set i (a, o')).map (·.1) = L.map (·.1)
  | [], i, a, o, o', e => by simp at e
  | y :: L, 0, a, o, o', e => by
    have e' : y = (a, o) := Option.some.inj e
    subst e'
    rfl
  | y :: L, i + 1, a, o, o', e => by
    have e' : L[i]? = some (a, o) := e
    rw [List.set_cons_succ, List.map_cons, List.map_cons, map_set_fst e']
theorem Ow.any1 (W : Ow H0 M H L) (i : Nat) (e : L[i]? = some (a, o)) (k : Keep [a] H H') (h : H' a = some o') : Ow H0 M H' (L.set i (a, o')) where
  keep := fun b u eb hb => by
    have z := W.keep b u eb hb
    refine k b u z ?_
    intro hm
    have hm' : b = a := by simpa using hm
    subst hm'
    rcases W.fr _ (List.mem_of_getElem? e) with r | r
    · rw [show (b, o).1 = b from rfl, eb] at r; cases r
    · exact hb r
  has := fun q hq => by
    rcases List.mem_or_eq_of_mem_set hq with hq | rfl
    · by_cases ha : q.1 = a
      · have := nd_of (q := q) (by rw [map_set_fst (o' := o') e]; exact W.nd) (show (L.set i (a, o'))[i]? = some (a, o') by
          have hi : i < L.length := (List.getElem?_eq_some_iff.mp e).1
          rw [List.getElem?_set_self hi]) (by assumption) ha
        subst this
        exact h
      · exact k _ _ (W.has q hq) (by simpa using ha)
    · exact h
  nd := by rw [map_set_fst e]; exact W.nd
  fr := fun q hq => by
    rcases List.mem_or_eq_of_mem_set hq with hq | rfl
    · exact W.fr q hq
    · exact (W.fr (a, o) (List.mem_of_getElem? e) : H0 a = none ∨ a ∈ M)
theorem keep_upd {H : Hp} {a : Addr} {o : HO} : Keep [a] H (upd H a o) := fun b u e hb => by
  rw [upd_ne (by simpa using hb)]
  exact e
theorem Ow.set (W : Ow H0 M H L) (i : Nat) (e : L[i]? = some (a, o)) : Ow H0 M (upd H a o') (L.set i (a, o')) := W.any1 i e keep_upd upd_same
/-- a call that changed nothing -/
theorem Ow.call0 (W : Ow H0 M H L) (k : Keep [] H H') : Ow H0 M H' L where
  keep := fun b u e hb => k b u (W.keep b u e hb) (by simp)
  has := fun q hq => k _ _ (W.has q hq) (by simp)
  nd := W.nd
  fr := W.fr
/-- .. and handed back a new object -/
theorem Ow.res (W : Ow H0 M H L) (W' : Ow H0 M H' L) (hp : H p = none) (h : H' p = some o) : Ow H0 M H' ((p, o) :: L) where
  keep := W'.keep
  has := fun q hq => by
    rcases List.mem_cons.mp hq with rfl | hq
    · exact h
    · exact W'.has q hq
  nd := by
    rw [List.map_cons, List.nodup_cons]
    refine ⟨fun hm => ?_, W.nd⟩
    obtain ⟨q, hq, e⟩ := List.mem_map.mp hm
    have := W.has q hq
    rw [show q.1 = p from e, hp] at this
    cases this
  fr := fun q hq => by
    rcases List.mem_cons.mp hq with rfl | hq
    · by_cases hm : p ∈ M
      · exact .inr hm
      · cases e : H0 p with
        | none => exact .inl rfl
        | some u =>
          have := W.keep p u e hm
          rw [hp] at this
          cases this
    · exact W.fr q hq
theorem Ow.tail {q : Addr × HO} (W : Ow H0 M H (q :: L)) : Ow H0 M H L := ⟨W.keep, fun p hp => W.has p (List.mem_cons_of_mem _ hp), (List.nodup_cons.mp W.nd).2, fun p hp => W.fr p (List.mem_cons_of_mem _ hp)⟩
theorem Ow.drop (W : Ow H0 M H L) : Ow H0 M H [] := ⟨W.keep, fun _ h => by simp at h, by simp, fun _ h => by simp at h⟩
theorem Ow.seq (W : Ow H0 M H L) (h : SqL K H0 a xs) (ha : a ∉ M) : SqL K H a xs := by
  rcases h with (h | ⟨o, h⟩) | h
  · exact .inl (.inl (W.keep _ _ h ha))
  · exact .inl (.inr ⟨o, W.keep _ _ h ha⟩)
  · exact .inr h
theorem Ow.sq (W : Ow H0 M H L) (i : Nat) (e : L[i]? = some (a, .lst xs)) : SqL K H a xs := .inl (.inl (W.get i e))
theorem Ow.sqT (W : Ow H0 M H L) (i : Nat) (e : L[i]? = some (a, .tup xs)) : SqT K H a xs := .inl (.inl (W.get i e))
end
/-! ### objects that are made or changed: the heap behind is told by what it keeps -/
structure NewO (o : HO) (Q : VK) (H : Hp) : Prop where
  to : ∀ (p : Addr) (H' : Hp), H p = none → Keep [] H H' → H' p = some o → Q (.ref p) H'
structure MutO (a : Addr) (o : HO) (Q : Hp → Prop) (H : Hp) : Prop where
  to : ∀ H' : Hp, Keep [a] H H' → H' a = some o → Q H'
theorem keep_new {H : Hp} {p : Addr} {o : HO} (np : H p = none) : Keep [] H (upd H p o) := fun b u e _ => by
  rw [upd_ne (ne_of_none e np)]
  exact e
theorem NewO.all {o : HO} {Q : VK} {H : Hp} (h : NewO o Q H) : ∀ p, H p = none → Q (.ref p) (upd H p o) := fun p np => h.to p _ np (keep_new np) upd_same
theorem MutO.at {a : Addr} {o : HO} {Q : Hp → Prop} {H : Hp} (h : MutO a o Q H) : Q (upd H a o) := h.to _ keep_upd upd_same
section
variable {H0 H H' : Hp} {M : List Addr} {L : List (Addr × HO)} {a p : Addr} {o o' : HO} {G : Prop}
theorem with1 (i : Nat) (W : Ow H0 M H L) (e : L[i]? = some (a, o)) (k : Keep [a] H H') (h : H' a = some o') (g : Ow H0 M H' (L.set i (a, o')) → G) : G := g (W.any1 i e k h)
theorem withN (W : Ow H0 M H L) (np : H p = none) (k : Keep [] H H') (h : H' p = some o) (g : Ow H0 M H' ((p, o) :: L) → G) : G := g (W.res (W.call0 k) np h)
theorem with0 (W : Ow H0 M H L) (k : Keep [] H H') (g : Ow H0 M H' L → G) : G := g (W.call0 k)
end
section
variable {X : Cx} {e : Expr} {es : List Expr} {t t' : TE} {ta : TA} {pos : Pos} {K : PySem.W.Frag}
def mA (t : TA) : TA := fun σ H Q => ∃ Q0, t σ H Q0 ∧ ∀ xs H', Q0 xs H' → Q xs H'
theorem pa_m (h : PA X es ta) : PA X es (mA ta) := ⟨fun pos pins s σ H Q I hq => by
  obtain ⟨Q0, h0, hi⟩ := hq
  exact thn (h.run pos pins s σ H Q0 I h0) fun us s1 ⟨xs, H1, I1, r, q⟩ => ⟨xs, H1, I1, r, hi _ _ q⟩⟩
theorem pe_imp (h : PE X e t) (k : ∀ σ H Q, t' σ H Q → t σ H Q) : PE X e t' := ⟨fun pins s σ H Q I q => h.run pins s σ H Q I (k σ H Q q)⟩
def tLstN (t : TA) : TE := fun σ H Q => t σ H fun xs H1 => xs.length ≤ sizeLine ∧ NewO (.lst xs) Q H1
def tTupN (t : TA) : TE := fun σ H Q => t σ H fun xs H1 => xs.length ≤ sizeLine ∧ NewO (.tup xs) Q H1
theorem pe_lstN (h : PA X es ta) : PE X (.List es pos) (tLstN ta) := pe_imp (pe_lst (pa_m h)) fun σ H Q q => ⟨_, q, fun xs H1 z => ⟨z.1, z.2.all⟩⟩
theorem pe_tupN {x1} (h : PA X es ta) : PE X (.Tuple es x1 pos) (tTupN ta) := pe_imp (pe_tup (pa_m h)) fun σ H Q q => ⟨_, q, fun xs H1 z => ⟨z.1, z.2.all⟩⟩
theorem pe_dnewN : PE X (.Dict [] [] pos) (fun _ H Q => NewO (.dK []) Q H) := pe_imp pe_dnewK fun σ H Q q => q.all
def rSetN : V → V → V → Hp → (Hp → Prop) → Prop := fun o i v H Q => ∃ p xs k j, o = .ref p ∧ i = .int k ∧ H p = some (.lst xs) ∧ ixN xs.length k = some j ∧ MutO p (.lst (xs.set j v)) Q H
theorem set_listN : PSet X rSetN := fun pins s σ H o i v ov iv u Q I ro ri rv h => by
  obtain ⟨p, xs, k, j, e1, e2, hp, hj, q⟩ := h
  exact set_list pins s σ H o i v ov iv u Q I ro ri rv ⟨p, xs, k, j, e1, e2, hp, hj, q.at⟩
def rSlN (K : PySem.W.Frag) : V → Option Int → Option Int → Hp → VK → Prop := fun x lo hi H Q => ∃ a xs, x = .ref a ∧ SqL K H a xs ∧ NewO (.lst (cutV xs lo hi)) Q H
theorem sl_listN : SlR X (rSlN X.K) := fun pins s σ H x v vl vu lo hi sl Q I rx hs pl pu h => by
  obtain ⟨a, xs, e, hx, q⟩ := h
  exact sl_list pins s σ H x v vl vu lo hi sl Q I rx hs pl pu ⟨a, xs, e, hx, q.all⟩
def rCatN : R2 := fun x y H Q => ∃ l b xs zs, x = .ref l ∧ y = .ref b ∧ H l = some (.lst xs) ∧ H b = some (.lst zs) ∧ xs.length + zs.length ≤ sizeLine ∧ NewO (.lst (xs ++ zs)) Q H
theorem op_catN : OpR X (binaryOp .Add) rCatN := fun pins s σ H x y v u Q I rx ry h => by
  obtain ⟨l, b, xs, zs, e1, e2, hl, hb, hz, q⟩ := h
  exact op_cat pins s σ H x y v u Q I rx ry ⟨l, b, xs, zs, e1, e2, hl, hb, hz, q.all⟩
def rAppN : V → List V → Hp → VK → Prop := fun x vs H Q => ∃ l xs y, x = .ref l ∧ vs = [y] ∧ H l = some (.lst xs) ∧ xs.length < sizeLine ∧ MutO l (.lst (xs ++ [y])) (Q .non) H
theorem mt_appN : MtR X "list.append" rAppN := fun pins s σ H x xs v us Q I rx rv h => by
  obtain ⟨l, ys, y, e1, e2, hl, hz, q⟩ := h
  exact mt_append pins s σ H x xs v us Q I rx rv ⟨l, ys, y, e1, e2, hl, hz, q.at⟩
def rSplN : V → List V → Hp → VK → Prop := fun x xs H Q => ∃ a b, x = .str a ∧ xs = [.str b] ∧ (b.length == 0) = false ∧ a.length + 2 ≤ sizeLine ∧ NewO (.lst ((Txt.split a b).map V.str)) Q H
theorem mt_splN : MtR X "str.split" rSplN := fun pins s σ H x xs v us Q I rx rv h => by
  obtain ⟨a, b, e1, e2, h1, h2, q⟩ := h
  exact mt_split pins s σ H x xs v us Q I rx rv ⟨a, b, e1, e2, h1, h2, q.all⟩
def rLofN (K : PySem.W.Frag) : List V → Hp → VK → Prop := fun xs H Q => ∃ p ys, xs = [.ref p] ∧ (SqL K H p ys ∨ SqT K H p ys) ∧ NewO (.lst ys) Q H
theorem call_lofN : CallR X (.type "list") (rLofN X.K) := fun pins s σ H xs us Q I r h => by
  obtain ⟨p, ys, e, hs, q⟩ := h
  exact call_list_of pins s σ H xs us Q I r ⟨p, ys, e, hs, q.all⟩
end
/-! ### calls with keywords of a def without defaults by place -/
section
variable {K : PySem.W.Frag} {x qual : Str} {params : Arguments} {body : List Stmt} {scope : Scope} {kws : List (Str × V)} {f : Addr} {fd : FuncData} {ps : List Str}
theorem kb0 (F : FunD K x qual params body scope [] kws f fd) (n : Nat) (ks : List Str) (ms : List (Str × V)) (g : {α : Type} → List α → List α → List α → List α) (hk : kws ≠ []) (hms : ∀ q ∈ ms, q ∈ kws)
    (hrel : ∀ {vs mz zs : List V} {us mv ws : List Value}, Vals vs us → Vals mz mv → Vals zs ws → Vals (g vs mz zs) (g us mv ws))
    (h : ∀ (D : Addr) (doc pm : Value) (an : Option Addr) (cdv ct : Value) (us mv ws : List Value), us.length = n → mv.length = ms.length → ws.length = ks.length →
      KwChain D ((ms.map (·.1)).zip mv) (bindArgs (PySem.W.fnOf x qual params body scope .none (.ref D) doc pm an cdv ct) ⟨us, ks.zip ws⟩) (ps.zip (g us mv ws))) :
    ∃ mv : List Value, KBn K fd ps n ks (fun us ws => g us mv ws) (fun vs zs => g vs (ms.map (·.2)) zs) := by
  obtain ⟨oc, od, dV, kV, doc, pm, an, cdv, ct, osl, rfl, lk, hcd, hD, hK⟩ := F.ex
  rcases hD with ⟨_, rfl⟩ | ⟨e, _⟩
  · rcases hK with e | ⟨D, rfl, hq⟩
    · exact absurd e hk
    · obtain ⟨mv, hl, rk, hks⟩ := kwd_vals (ms := ms) fun q hm => hq q (hms q hm)
      exact ⟨mv, fun s us ws X l1 l2 => BindsTo.of_looks fun M => KwChain.looks X hks (h D doc pm an cdv ct us mv ws l1 hl l2), fun r1 r2 => hrel r1 rk r2⟩
  · exact absurd rfl e
end
section
variable {X : Cx} {CX : CXT} {k : Nat} {f : Addr} {fd : FuncData} {ps ks : List Str} {sp : Sp} {E : XK} {x : Str} {p pos : Pos} {kws : List Keyword} {tk : TA} {g : List Value → List Value → List Value} {gV : List V → List V → List V}
theorem pe_callN0 (F : FnOk X.prog X.w X.K X.mg X.base CX k f fd ps sp) (hr : Room k X.A) (hg : Gl X x) (hm : X.mg x = some (.ref f)) (hk : PySem.W.keepIn X.K (.ref f) = true) (hb : KBn X.K fd ps 0 ks g gV) (hx : Passes CX X E) (hkw : PK X kws tk)
    (hall : (backToKw pos (keywordEach kws X.env)).all (·.1.isSome) = true := by rfl) (hks : (backToKw pos (keywordEach kws X.env)).filterMap (·.1) = ks := by rfl) (hdb : (x == ("__debug__" : Str)) = false := by decide)
    (hpl : ((backTo pos (starEach [] X.env)).any (·.1) || (backToKw pos (keywordEach kws X.env)).any (·.1.isNone)) = false := by rfl) : PE X (.Call (.Name x p) [] kws pos) (tCallN 0 ks.length sp gV E tNil tk) := ⟨fun pins s σ H Q I h => by
  refine wpAny_Call_Name_kw (ld_glob I hg hm (PySem.W.callWith_KW0 (h₀ := X.base) I.ok.mod.kin hk hall ?_ hpl) hdb)
  refine thn (hkw.run pos pins s σ H _ I h) fun ws s2 hz => ?_
  obtain ⟨zs, H2, I2, rz, l1, l2, q2⟩ := hz
  refine ⟨I2.kIn, ?_⟩
  rw [hks]
  exact run_fnN (us := []) (vs := []) F hr hb hx I2 .nil rz rfl l2 q2⟩
end
/-! ### tests -/
section
variable {A B : Prop}
theorem ifT {b : Bool} (h : b = true) (a : A) : if b = true then A else B := by rw [if_pos h]; exact a
theorem ifF {b : Bool} (h : b = false) (a : B) : if b = true then A else B := by rw [h, if_neg Bool.false_ne_true]; exact a
theorem ifB {b : Bool} (h1 : b = true → A) (h2 : b = false → B) : if b = true then A else B := by
  cases b
  · exact ifF rfl (h2 rfl)
  · exact ifT rfl (h1 rfl)
theorem ifNB {b : Bool} (h1 : b = false → A) (h2 : b = true → B) : if (!b) = true then A else B := by
  cases b
  · exact ifT rfl (h1 rfl)
  · exact ifF rfl (h2 rfl)
theorem ifD {p : Prop} [Decidable p] (h1 : p → A) (h2 : ¬ p → B) : if decide p = true then A else B := by
  by_cases h : p
  · exact ifT (decide_eq_true h) (h1 h)
  · exact ifF (decide_eq_false h) (h2 h)
theorem ifN {p : Prop} [Decidable p] (h1 : ¬ p → A) (h2 : p → B) : if (!decide p) = true then A else B := by
  by_cases h : p
  · exact ifF (by rw [decide_eq_true h]; rfl) (h2 h)
  · exact ifT (by rw [decide_eq_false h]; rfl) (h1 h)
theorem ifQ {b : Bool} {p : Prop} [Decidable p] (h : b = decide p) (h1 : p → A) (h2 : ¬ p → B) : if b = true then A else B := by
  rw [h]
  exact ifD h1 h2
theorem ifVI {i j : Int} (h1 : i = j → A) (h2 : i ≠ j → B) : if decide (V.int i = V.int j) = true then A else B := ifD (fun h => h1 (V.int.inj h)) fun h => h2 fun e => h (by rw [e])
theorem ifVIn {i j : Int} (h1 : i ≠ j → A) (h2 : i = j → B) : if (!decide (V.int i = V.int j)) = true then A else B := ifN (fun h => h1 fun e => h (by rw [e])) fun h => h2 (V.int.inj h)
theorem ifVS {i j : Str} (h1 : i = j → A) (h2 : i ≠ j → B) : if decide (V.str i = V.str j) = true then A else B := ifD (fun h => h1 (V.str.inj h)) fun h => h2 fun e => h (by rw [e])
theorem ifVSn {i j : Str} (h1 : i ≠ j → A) (h2 : i = j → B) : if (!decide (V.str i = V.str j)) = true then A else B := ifN (fun h => h1 fun e => h (by rw [e])) fun h => h2 (V.str.inj h)
end
/-! ### isinstance -/
theorem isi {K : PySem.W.Frag} {H : Hp} {Q : VK} {x : V} {t c : String} {b : Bool} (ty : TyX K H x (.type t)) (k : kitB t c = some b) (q : Q (.bl b) H) : rIsi K [x, .ty c] H Q := ⟨x, .ty c, .type t, .type c, b, rfl, .ty c, ty, kit_ty k, q⟩
theorem call_isiK {X : Cx} {K : PySem.W.Frag} (h : X.K = K) : CallR X (.builtin "isinstance") (rIsi K) := h ▸ call_isi
theorem ki_int_str : kitB "int" "str" = some false := by decide +kernel
theorem ki_int_int : kitB "int" "int" = some true := by decide +kernel
theorem ki_int_bool : kitB "int" "bool" = some false := by decide +kernel
theorem ki_int_list : kitB "int" "list" = some false := by decide +kernel
theorem ki_int_tuple : kitB "int" "tuple" = some false := by decide +kernel
theorem ki_int_dict : kitB "int" "dict" = some false := by decide +kernel
theorem ki_str_str : kitB "str" "str" = some true := by decide +kernel
theorem ki_str_int : kitB "str" "int" = some false := by decide +kernel
theorem ki_str_bool : kitB "str" "bool" = some false := by decide +kernel
theorem ki_str_list : kitB "str" "list" = some false := by decide +kernel
theorem ki_str_tuple : kitB "str" "tuple" = some false := by decide +kernel
theorem ki_str_dict : kitB "str" "dict" = some false := by decide +kernel
theorem ki_bl_str : kitB "bool" "str" = some false := by decide +kernel
theorem ki_bl_int : kitB "bool" "int" = some true := by decide +kernel
theorem ki_bl_bool : kitB "bool" "bool" = some true := by decide +kernel
theorem ki_bl_list : kitB "bool" "list" = some false := by decide +kernel
theorem ki_bl_tuple : kitB "bool" "tuple" = some false := by decide +kernel
theorem ki_bl_dict : kitB "bool" "dict" = some false := by decide +kernel
theorem ki_non_str : kitB "NoneType" "str" = some false := by decide +kernel
theorem ki_non_int : kitB "NoneType" "int" = some false := by decide +kernel
theorem ki_non_bool : kitB "NoneType" "bool" = some false := by decide +kernel
theorem ki_non_list : kitB "NoneType" "list" = some false := by decide +kernel
theorem ki_non_tuple : kitB "NoneType" "tuple" = some false := by decide +kernel
theorem ki_non_dict : kitB "NoneType" "dict" = some false := by decide +kernel
theorem ki_lst_str : kitB "list" "str" = some false := by decide +kernel
theorem ki_lst_int : kitB "list" "int" = some false := by decide +kernel
theorem ki_lst_bool : kitB "list" "bool" = some false := by decide +kernel
theorem ki_lst_list : kitB "list" "list" = some true := by decide +kernel
theorem ki_lst_tuple : kitB "list" "tuple" = some false := by decide +kernel
theorem ki_lst_dict : kitB "list" "dict" = some false := by decide +kernel
theorem ki_tup_str : kitB "tuple" "str" = some false := by decide +kernel
theorem ki_tup_int : kitB "tuple" "int" = some false := by decide +kernel
theorem ki_tup_bool : kitB "tuple" "bool" = some false := by decide +kernel
theorem ki_tup_list : kitB "tuple" "list" = some false := by decide +kernel
theorem ki_tup_tuple : kitB "tuple" "tuple" = some true := by decide +kernel
theorem ki_tup_dict : kitB "tuple" "dict" = some false := by decide +kernel
theorem ki_dK_str : kitB "dict" "str" = some false := by decide +kernel
theorem ki_dK_int : kitB "dict" "int" = some false := by decide +kernel
theorem ki_dK_bool : kitB "dict" "bool" = some false := by decide +kernel
theorem ki_dK_list : kitB "dict" "list" = some false := by decide +kernel
theorem ki_dK_tuple : kitB "dict" "tuple" = some false := by decide +kernel
theorem ki_dK_dict : kitB "dict" "dict" = some true := by decide +kernel
/-- the generator of a law's numbers: at b a list of three numbers, the last at most n -/
def bagO (x y z : Int) : HO := .lst [.int x, .int y, .int z]
structure BagOk (n : Nat) (x y z : Int) : Prop where
  x0 : 0 ≤ x
  y0 : 0 ≤ y
  y1 : y < 2147483648
  z0 : 0 ≤ z
  z1 : z ≤ (n : Int)
theorem BagOk.mono {n m : Nat} {x y z : Int} (h : BagOk n x y z) (e : n ≤ m) : BagOk m x y z := ⟨h.x0, h.y0, h.y1, h.z0, by have := h.z1; omega⟩
/-- take(bag, k): a number below k; the bag is changed, by one count at the most -/
def spTake : Sp := fun vs H Q _ => ∃ (b : Addr) (k : Int) (n : Nat) (x y z : Int), vs = [.ref b, .int k] ∧ H b = some (bagO x y z) ∧ BagOk n x y z ∧ n < 1000000 ∧ 0 < k ∧ k < 1073741824 ∧
  ∀ (d x' y' z' : Int) (H' : Hp), 0 ≤ d → d < k → BagOk (n + 1) x' y' z' → Keep [b] H H' → H' b = some (bagO x' y' z') → Q (.int d) H'
theorem atI_in {α : Type} {xs : List α} {d : Int} (h0 : 0 ≤ d) (h1 : d < (xs.length : Int)) : ∃ v, atI xs d = some v ∧ v ∈ xs := by
  obtain ⟨k, rfl⟩ := Int.eq_ofNat_of_zero_le h0
  have hk : k < xs.length := by omega
  exact ⟨xs[k], atI_nat (List.getElem?_eq_getElem hk), List.getElem_mem hk⟩
theorem size_ok {n : Nat} (h : n ≤ 1000000) : n < sizeLine := Nat.lt_of_le_of_lt h (by decide)
theorem size_le {n : Nat} (h : n ≤ 1000000) : n ≤ sizeLine := Nat.le_of_lt (size_ok h)
/-! ### texts by their codes -/
theorem len_app (x y : Str) : (x ++ y).length = x.length + y.length := by rw [len_tl, len_tl, len_tl, tl_append, List.length_append]
theorem joinL_nil : ∀ ps : List (List Nat), joinL [] ps = ps.flatten
  | [] => rfl
  | [p] => by simp [joinL]
  | p :: q :: r => by
    have ih := joinL_nil (q :: r)
    show p ++ ([] ++ joinL [] (q :: r)) = _
    rw [ih]
    simp
theorem tl_joinE (ss : List Str) : tl (Txt.join (Str.ofString "") ss) = (ss.map tl).flatten := by
  rw [join_eq, tl_join, show tl (Str.ofString "") = [] by decide +kernel, joinL_nil]
theorem sum_one : ∀ {ss : List Str}, (∀ s ∈ ss, s.length = 1) → (ss.map (·.length)).sum = ss.length
  | [], _ => rfl
  | s :: r, h => by
    rw [List.map_cons, List.sum_cons, sum_one fun t ht => h t (List.mem_cons_of_mem _ ht), h s List.mem_cons_self, List.length_cons]
    omega
theorem flat_one : ∀ {ss : List Str}, (∀ s ∈ ss, s.length = 1) → (ss.map tl).flatten.length = ss.length
  | [], _ => rfl
  | s :: r, h => by
    have h1 := h s List.mem_cons_self
    rw [len_tl] at h1
    rw [List.map_cons, List.flatten_cons, List.length_append, flat_one fun t ht => h t (List.mem_cons_of_mem _ ht), List.length_cons, h1]
    omega
theorem join_one {ss : List Str} (h : ∀ s ∈ ss, s.length = 1) : (Txt.join (Str.ofString "") ss).length = ss.length := by rw [len_tl, tl_joinE, flat_one h]
theorem tl_cutS (z : Str) (lo hi : Option Int) : tl (cutS z lo hi) = ((tl z).drop (HT.sIx z.length 0 lo)).take (HT.sIx z.length z.length hi - HT.sIx z.length 0 lo) := rfl
theorem cutS_len (z : Str) (lo hi : Option Int) : (cutS z lo hi).length ≤ z.length := by
  rw [len_tl, tl_cutS, List.length_take, List.length_drop, len_tl z]
  omega
theorem starts_one (x : Str) (c : Nat) : Txt.startswith x ⟨#[c]⟩ = true ↔ (tl x)[0]? = some c := by
  unfold Txt.startswith
  rw [Bool.and_eq_true, decide_eq_true_eq]
  exact PySem.StrLaws.subAt_one x c 0
/-! ### texts of plain signs -/
def Asc (s : Str) : Prop := ∀ c ∈ tl s, c < 128
theorem Asc.app {x y : Str} (a : Asc x) (b : Asc y) : Asc (x ++ y) := fun c hc => by
  rw [tl_append] at hc
  rcases List.mem_append.mp hc with h | h
  · exact a c h
  · exact b c h
theorem Asc.cut {x : Str} (a : Asc x) (lo hi : Option Int) : Asc (cutS x lo hi) := fun c hc => a c (List.mem_of_mem_drop (List.mem_of_mem_take (by rw [tl_cutS] at hc; exact hc)))
theorem Asc.one {c : Nat} (h : c < 128) : Asc ⟨#[c]⟩ := fun d hd => by
  have : d = c := by simpa using hd
  omega
theorem Asc.of {x : Str} (h : (tl x).all (fun c => decide (c < 128)) = true) : Asc x := fun c hc => by simpa using List.all_eq_true.mp h c hc
theorem Asc.joined {S : List Nat} : ∀ {ps : List (List Nat)}, (∀ c ∈ S, c < 128) → (∀ p ∈ ps, ∀ c ∈ p, c < 128) → ∀ c ∈ joinL S ps, c < 128
  | [], _, _, c, h => by simp [joinL] at h
  | [p], _, hp, c, h => hp p List.mem_cons_self c h
  | p :: q :: r, hS, hp, c, h => by
    rcases List.mem_append.mp (show c ∈ p ++ (S ++ joinL S (q :: r)) from h) with h | h
    · exact hp p List.mem_cons_self c h
    · rcases List.mem_append.mp h with h | h
      · exact hS c h
      · exact Asc.joined hS (fun t ht => hp t (List.mem_cons_of_mem _ ht)) c h
theorem Asc.join {y : Str} {ss : List Str} (a : Asc y) (h : ∀ s ∈ ss, Asc s) : Asc (Txt.join y ss) := by
  unfold Asc
  rw [join_eq, tl_join]
  refine Asc.joined a fun p hp => ?_
  obtain ⟨s, hs, rfl⟩ := List.mem_map.mp hp
  exact h s hs
theorem joinL_len (S : List Nat) : ∀ (ps : List (List Nat)), (joinL S ps).length ≤ (ps.map (·.length)).sum + ps.length * S.length
  | [] => by simp [joinL]
  | [p] => by simp [joinL]
  | p :: q :: r => by
    have ih := joinL_len S (q :: r)
    show (p ++ (S ++ joinL S (q :: r))).length ≤ _
    rw [List.length_append, List.length_append, List.map_cons, List.sum_cons, List.length_cons, Nat.add_one_mul]
    omega
theorem join_len (y : Str) (ss : List Str) : (Txt.join y ss).length ≤ (ss.map (·.length)).sum + ss.length * y.length := by
  have h := joinL_len (tl y) (ss.map tl)
  rw [join_eq, len_tl, tl_join, len_tl y]
  rw [List.length_map, List.map_map] at h
  rw [show ss.map (fun x => x.length) = ss.map ((fun x => x.length) ∘ tl) from List.map_congr_left fun s _ => len_tl s]
  exact h
theorem sum_le {ss : List Str} {k : Nat} (h : ∀ s ∈ ss, s.length ≤ k) : (ss.map (·.length)).sum ≤ ss.length * k := by
  induction ss with
  | nil => simp
  | cons s r ih =>
    rw [List.map_cons, List.sum_cons, List.length_cons, Nat.add_one_mul]
    have h1 := h s List.mem_cons_self
    have h2 := ih fun t ht => h t (List.mem_cons_of_mem _ ht)
    omega
theorem str_ok {s : Str} (a : Asc s) : PyData.strOk s = true := by
  unfold PyData.strOk
  rw [show s.cps.all (fun x => decide (x < 0x110000)) = (tl s).all (fun x => decide (x < 0x110000)) by simp]
  exact List.all_eq_true.mpr fun c hc => decide_eq_true (Nat.lt_trans (a c hc) (by decide))
def dStrs (ws : List Str) : PyData := .list (ws.map .str)
theorem lay_strs : ∀ {ws : List Str}, (∀ s ∈ ws, Asc s) → PyData.canLayAll0 (ws.map .str) = true
  | [], _ => rfl
  | s :: r, h => by
    rw [List.map_cons, PyData.canLayAll0, PyData.canLay0, str_ok (h s List.mem_cons_self), lay_strs fun t ht => h t (List.mem_cons_of_mem _ ht)]
    rfl
theorem depth_strs : ∀ ws : List Str, PyData.depthAll (ws.map .str) = 0
  | [] => rfl
  | s :: r => by rw [List.map_cons, PyData.depthAll, PyData.depth, depth_strs r]; rfl
theorem shaped_strs {ws : List Str} (h : ∀ s ∈ ws, Asc s) : SeqAt.shaped (dStrs ws) = true := by
  unfold SeqAt.shaped dStrs
  rw [PyData.canLay0, lay_strs h, PyData.depth, depth_strs]
  rfl
theorem dpAll_strs {K : PySem.W.Frag} {H : Hp} : ∀ ws : List Str, DpAll K H (ws.map V.str) (ws.map .str)
  | [] => .nil
  | s :: r => .cons (.str s) (dpAll_strs r)
theorem dp_strs {K : PySem.W.Frag} {H : Hp} {a : Addr} {ws : List Str} (h : SqL K H a (ws.map V.str)) : Dp K H (.ref a) (dStrs ws) := .lst h (dpAll_strs ws)
theorem eqv_strs : ∀ ws : List Str, PyData.eqvAll (ws.map .str) (ws.map .str) = true
  | [] => rfl
  | s :: r => by rw [List.map_cons, PyData.eqvAll, eqv_strs r, PyData.eqv]; simp
theorem eqv_dstrs (ws : List Str) : PyData.eqv (dStrs ws) (dStrs ws) = true := by
  unfold dStrs
  rw [PyData.eqv, eqv_strs]
theorem in_strs (x : Str) : ∀ ws : List Str, inV (.str x) (ws.map V.str) = decide (x ∈ ws)
  | [] => rfl
  | s :: r => by
    have ih := in_strs x r
    unfold inV at ih ⊢
    rw [List.map_cons, List.any_cons, ih]
    show ((s == x) || decide (x ∈ r)) = _
    by_cases h : s = x
    · subst h; simp
    · simp [h, Ne.symm h]
theorem flat_strs (ws : List Str) : (ws.map V.str).all flatV = true := by
  rw [List.all_map]
  exact List.all_eq_true.mpr fun _ _ => rfl
/-- keywords at a call of a def without defaults -/
theorem kbF {K : PySem.W.Frag} {x qual : Str} {st : Stmt} {f : Addr} {fd : FuncData} {ps : List Str} (F : Fun K x qual st f fd) (n : Nat) (ks : List Str) (g : {α : Type} → List α → List α → List α)
    (hrel : ∀ {vs zs : List V} {us ws : List Value}, Vals vs us → Vals zs ws → Vals (g vs zs) (g us ws))
    (h : ∀ (kV doc pm : Value) (an : Option Addr) (cdv ct : Value) (us ws : List Value), us.length = n → ws.length = ks.length →
      bindArgs (PySem.W.fnOf x qual (defArgs st) (defBody st) (defScope st) .none kV doc pm an cdv ct) ⟨us, ks.zip ws⟩ = pure (ps.zip (g us ws))) : KBn K fd ps n ks (fun us ws => g us ws) (fun vs zs => g vs zs) := by
  obtain ⟨oc, od, kV, doc, pm, an, cdv, ct, osl, rfl, lk, hcd⟩ := F.ex
  exact ⟨fun s us ws X l1 l2 => .of_eq (h kV doc pm an cdv ct us ws l1 l2), fun r1 r2 => hrel r1 r2⟩
/-- isinstance(x, (a, b)) -/
theorem kit2 {K : PySem.W.Frag} {t a b : String} {r1 r2 : Bool} (h1 : kitB t a = some r1) (h2 : kitB t b = some r2) : PySem.W.kitAny K (.type t) [.type a, .type b] = some (r1 || r2) := by
  refine kitAny_cons (kit_ty h1) (fun e => ?_) (fun e => by rw [e]; rfl)
  subst e
  refine kitAny_cons (kit_ty h2) (fun e => by rw [e]; rfl) (fun e => by rw [e]; rfl)
theorem eqv_nil : ∀ ws : List Str, PyData.eqv (dStrs ws) (dStrs []) = decide (ws = [])
  | [] => rfl
  | s :: r => rfl
/-! ### signs as texts -/
def sg (l : List Nat) : List Str := l.map fun d => ⟨#[d]⟩
theorem sg_one {l : List Nat} : ∀ s ∈ sg l, s.length = 1 := fun s hs => by
  obtain ⟨d, _, rfl⟩ := List.mem_map.mp hs
  rfl
theorem sg_len (l : List Nat) : (sg l).length = l.length := List.length_map _
theorem sg_asc {l : List Nat} (h : ∀ c ∈ l, c < 128) : ∀ s ∈ sg l, Asc s := fun s hs => by
  obtain ⟨d, hd, rfl⟩ := List.mem_map.mp hs
  exact Asc.one (h d hd)
theorem tl_join_sg : ∀ l : List Nat, ((sg l).map tl).flatten = l
  | [] => rfl
  | c :: r => by
    have ih := tl_join_sg r
    show ([c] ++ ((sg r).map tl).flatten) = c :: r
    rw [ih]
    rfl
theorem sg_app (l : List Nat) (c : Nat) : (sg (l ++ [c])).map V.str = (sg l).map V.str ++ [.str ⟨#[c]⟩] := by
  unfold sg
  rw [List.map_append, List.map_append]
  rfl
theorem chr_inj {c d : Nat} (h : (⟨#[c]⟩ : Str) = ⟨#[d]⟩) : c = d := by
  have := congrArg tl h
  simpa using this
theorem ifC {A B : Prop} {c d : Nat} (h1 : c = d → A) (h2 : c ≠ d → B) : if decide (V.str ⟨#[c]⟩ = V.str ⟨#[d]⟩) = true then A else B := ifVS (fun h => h1 (chr_inj h)) fun h => h2 fun e => h (by rw [e])
theorem ifCn {A B : Prop} {c d : Nat} (h1 : c ≠ d → A) (h2 : c = d → B) : if (!decide (V.str ⟨#[c]⟩ = V.str ⟨#[d]⟩)) = true then A else B := ifVSn (fun h => h1 fun e => h (by rw [e])) fun h => h2 (chr_inj h)
theorem filt_in {pre : List Nat} {c d : Nat} (h : d ≠ c) : (pre ++ [d]).filter (fun x => decide (x ≠ c)) = pre.filter (fun x => decide (x ≠ c)) ++ [d] := by
  rw [List.filter_append, List.filter_cons, if_pos (by simpa using h)]
  rfl
theorem filt_out {pre : List Nat} {c d : Nat} (h : d = c) : (pre ++ [d]).filter (fun x => decide (x ≠ c)) = pre.filter (fun x => decide (x ≠ c)) := by
  rw [List.filter_append, List.filter_cons, if_neg (by simpa using h)]
  simp
theorem filt_asc {l : List Nat} {p : Nat → Bool} (h : ∀ c ∈ l, c < 128) : ∀ c ∈ l.filter p, c < 128 := fun c hc => h c (List.mem_filter.mp hc).1
theorem tl_joined_sg (l : List Nat) : tl (Txt.join (Str.ofString "") (sg l)) = l := by rw [tl_joinE, tl_join_sg]
/-! ### a text split at a sign -/
theorem split_tl (s : Str) {c : Nat} (h : c < 256) : (Txt.split s ⟨#[c]⟩).map tl = spl [c] 0 [] (tl s) := split_spl s ⟨#[c]⟩ (by simp) (kind_ok (by simpa using h))
theorem spl_asc : ∀ (l acc : List Nat) (c : Nat), (∀ d ∈ l, d < 128) → (∀ d ∈ acc, d < 128) → ∀ p ∈ spl [c] 0 acc l, ∀ d ∈ p, d < 128
  | [], acc, c, _, ha, p, hp, d, hd => by
    rw [spl_nil] at hp
    rw [List.mem_singleton.mp hp] at hd
    exact ha d hd
  | x :: r, acc, c, hl, ha, p, hp, d, hd => by
    have hr : ∀ d ∈ r, d < 128 := fun d h => hl d (List.mem_cons_of_mem _ h)
    by_cases e : pre [c] (x :: r) = true
    · rw [spl_hit e] at hp
      rcases List.mem_cons.mp hp with rfl | hp
      · exact ha d hd
      · exact spl_asc r [] c hr (fun _ h => by simp at h) p hp d hd
    · rw [spl_miss (by simpa using e)] at hp
      refine spl_asc r (acc ++ [x]) c hr (fun d h => ?_) p hp d hd
      rcases List.mem_append.mp h with h | h
      · exact ha d h
      · rw [List.mem_singleton.mp h]; exact hl x List.mem_cons_self
theorem split_asc {s : Str} {c : Nat} (h : c < 256) (a : Asc s) : ∀ w ∈ Txt.split s ⟨#[c]⟩, Asc w := fun w hw => by
  have : tl w ∈ (Txt.split s ⟨#[c]⟩).map tl := List.mem_map_of_mem hw
  rw [split_tl s h] at this
  exact spl_asc (tl s) [] c a (fun _ h => by simp at h) _ this
theorem spl_len : ∀ (l acc : List Nat) (c : Nat), (spl [c] 0 acc l).length ≤ l.length + 1
  | [], acc, c => by rw [spl_nil]; simp
  | x :: r, acc, c => by
    by_cases e : pre [c] (x :: r) = true
    · rw [spl_hit e, List.length_cons, List.length_cons]
      have := spl_len r [] c
      exact Nat.succ_le_succ this
    · rw [spl_miss (by simpa using e), List.length_cons]
      have := spl_len r (acc ++ [x]) c
      omega
theorem split_len {s : Str} {c : Nat} (h : c < 256) : (Txt.split s ⟨#[c]⟩).length ≤ s.length + 1 := by
  have := spl_len (tl s) [] c
  rw [← split_tl s h, List.length_map] at this
  rw [len_tl]
  exact this
theorem pre_one {c x : Nat} {r : List Nat} : pre [c] (x :: r) = decide (x = c) := by
  unfold pre
  by_cases h : x = c <;> simp [h]
/-! ### text * number -/
theorem op_mul_str {X : Cx} : OpR X (binaryOp .Mult) (fun x y H Q => ∃ i j, x = .str i ∧ y = .int j ∧ (0 ≤ j ∧ j ≤ 10000 ∧ i.length ≤ 1000) ∧ Q (.str (Txt.mul i j)) H) := fun pins s σ H x y v u Q I rx ry h => by
  obtain ⟨i, j, rfl, rfl, ⟨h0, h1, h2⟩, q⟩ := h
  obtain ⟨t, rfl⟩ := rx
  obtain ⟨t', rfl⟩ := ry
  refine SB.mul ⟨?_, fun h3 h4 => ?_, fun h3 h4 => ?_⟩ fun t' k => ⟨.str (Txt.mul i j), H, I.tok _, ⟨_, rfl⟩, q⟩
  · simp
    omega
  · have h5 : (i.length : Int) * j ≤ 1000 * 10000 := Int.mul_le_mul (by omega) h1 h0 (by decide)
    have h6 : (i.length : Int) ≤ (2 ^ 63 - 1) / j := Int.le_ediv_of_mul_le (by omega) (by omega)
    omega
  · have h5 : i.length * j.toNat ≤ 1000 * 10000 := Nat.mul_le_mul h2 (by omega)
    have h6 : i.length * j.toNat ≤ sizeLine := Nat.le_trans h5 (by decide)
    unfold Builtin.Str.tooLong
    exact decide_eq_false (by omega)
theorem fold_cps (a : Array Nat) : ∀ (k : Nat) (acc : Array Nat), ((List.replicate k a).foldl (fun x y => x ++ y) acc).toList = acc.toList ++ (List.replicate k a.toList).flatten
  | 0, acc => by simp
  | k + 1, acc => by
    rw [List.replicate_succ, List.foldl_cons, fold_cps a k, List.replicate_succ, List.flatten_cons, Array.toList_append, List.append_assoc]
theorem flat_nil : ∀ k : Nat, (List.replicate k ([] : List Nat)).flatten = []
  | 0 => rfl
  | k + 1 => by rw [List.replicate_succ, List.flatten_cons, flat_nil k]; rfl
theorem tl_mul (x : Str) (n : Int) : tl (Txt.mul x n) = (List.replicate n.toNat (tl x)).flatten := by
  unfold Txt.mul
  split
  · rename_i h
    rw [show n.toNat = 0 by omega]
    rfl
  · split
    · rename_i h1 h2
      rcases Bool.or_eq_true_iff.mp h2 with h | h
      · have : n = 1 := by simpa using h
        subst this
        simp
      · have h3 : x.length = 0 := by simpa using h
        rw [len_tl] at h3
        rw [List.length_eq_zero_iff.mp h3, flat_nil]
    · show ((List.replicate n.toNat x.cps).foldl (fun x y => x ++ y) #[]).toList = _
      rw [fold_cps]
      rfl
theorem mul_len (x : Str) (n : Int) : (Txt.mul x n).length = x.length * n.toNat := by
  rw [len_tl, tl_mul, List.length_flatten, List.map_replicate, List.sum_replicate_nat, len_tl, Nat.mul_comm]
theorem Asc.mul {x : Str} (a : Asc x) (n : Int) : Asc (Txt.mul x n) := fun c hc => by
  rw [tl_mul] at hc
  obtain ⟨l, hl, hc⟩ := List.mem_flatten.mp hc
  rw [List.eq_of_mem_replicate hl] at hc
  exact a c hc
/-! ### loops by what is behind -/
section
variable {g : TG} {tb : TS} {D : Ends} {σ : L2.St} {H : Hp}
theorem for_str {s : Str} (Pv : List Nat → L2.St → Hp → Prop) (h0 : Pv [] σ H)
    (hs : ∀ pre c post σ H, tl s = pre ++ c :: post → Pv pre σ H → g (.str ⟨#[c]⟩) σ H fun σ2 H2 => tb { D with nx := Pv (pre ++ [c]), ct := Pv (pre ++ [c]), bk := D.nx } σ2 H2) (hd : ∀ σ H, Pv (tl s) σ H → D.nx σ H) :
    ∃ W : Nat → Nat → L2.St → Hp → Prop, (∃ m, W 0 m σ H) ∧ ∀ i m σ H, W i m σ H →
      ((Its s).stop i H ∧ D.nx σ H) ∨ ((Its s).go i H ∧ ∃ N : L2.St → Hp → Prop, (∀ σ' H', N σ' H' → ∃ m', m' < m ∧ W (i + 1) m' σ' H') ∧ ∀ x H', (Its s).yld i H x H' → g x σ H' fun σ2 H2 => tb { D with nx := N, ct := N, bk := D.nx } σ2 H2) := by
  have hsz : s.cps.size = (tl s).length := by simp
  refine for_it walk_str (fun i σ H => Pv ((tl s).take i) σ H) (by simpa using h0) (fun _ _ _ _ _ => True.intro) ?_ (fun σ H p => hd σ H (by rw [hsz, List.take_length] at p; exact p))
  rintro i x σ H H' hi p ⟨rfl, c, hc, rfl⟩
  have hc' : (tl s)[i]? = some c := by simpa using hc
  have hl : i < (tl s).length := by omega
  have e : tl s = (tl s).take i ++ c :: (tl s).drop (i + 1) := by
    have h2 : (tl s)[i] = c := by rw [List.getElem?_eq_getElem hl] at hc'; exact Option.some.inj hc'
    rw [← h2, ← List.drop_eq_getElem_cons hl, List.take_append_drop]
  have e2 : (tl s).take (i + 1) = (tl s).take i ++ [c] := by rw [List.take_add_one, hc']; rfl
  rw [e2]
  exact hs _ c _ σ _ e p
theorem for_rg {lo : Int} {n : Nat} (Pv : Nat → L2.St → Hp → Prop) (h0 : Pv 0 σ H)
    (hs : ∀ i σ H, i < n → Pv i σ H → g (.int (lo + i)) σ H fun σ2 H2 => tb { D with nx := Pv (i + 1), ct := Pv (i + 1), bk := D.nx } σ2 H2) (hd : ∀ σ H, Pv n σ H → D.nx σ H) :
    ∃ W : Nat → Nat → L2.St → Hp → Prop, (∃ m, W 0 m σ H) ∧ ∀ i m σ H, W i m σ H →
      ((Itr lo n).stop i H ∧ D.nx σ H) ∨ ((Itr lo n).go i H ∧ ∃ N : L2.St → Hp → Prop, (∀ σ' H', N σ' H' → ∃ m', m' < m ∧ W (i + 1) m' σ' H') ∧ ∀ x H', (Itr lo n).yld i H x H' → g x σ H' fun σ2 H2 => tb { D with nx := N, ct := N, bk := D.nx } σ2 H2) := for_range Pv h0 hs hd
theorem for_li {K : PySem.W.Frag} {a : Addr} {xs : List V} (Pv : List V → L2.St → Hp → Prop) (h0 : Pv [] σ H) (hl : ∀ pre post σ H, xs = pre ++ post → Pv pre σ H → SqL K H a xs)
    (hs : ∀ pre x post σ H, xs = pre ++ x :: post → Pv pre σ H → g x σ H fun σ2 H2 => tb { D with nx := Pv (pre ++ [x]), ct := Pv (pre ++ [x]), bk := D.nx } σ2 H2) (hd : ∀ σ H, Pv xs σ H → D.nx σ H) :
    ∃ W : Nat → Nat → L2.St → Hp → Prop, (∃ m, W 0 m σ H) ∧ ∀ i m σ H, W i m σ H →
      ((Itl K a).stop i H ∧ D.nx σ H) ∨ ((Itl K a).go i H ∧ ∃ N : L2.St → Hp → Prop, (∀ σ' H', N σ' H' → ∃ m', m' < m ∧ W (i + 1) m' σ' H') ∧ ∀ x H', (Itl K a).yld i H x H' → g x σ H' fun σ2 H2 => tb { D with nx := N, ct := N, bk := D.nx } σ2 H2) := by
  refine for_it (walk_list (xs := xs)) (fun i σ H => Pv (xs.take i) σ H) (by simpa using h0) (fun i σ H _ p => hl (xs.take i) (xs.drop i) σ H (List.take_append_drop i xs).symm p) ?_ (fun σ H p => hd σ H (by rw [List.take_length] at p; exact p))
  rintro i x σ H H' hi p ⟨rfl, hc⟩
  have e : xs = xs.take i ++ x :: xs.drop (i + 1) := by
    have h2 : xs[i] = x := by rw [List.getElem?_eq_getElem hi] at hc; exact Option.some.inj hc
    rw [← h2, ← List.drop_eq_getElem_cons hi, List.take_append_drop]
  have e2 : xs.take (i + 1) = xs.take i ++ [x] := by rw [List.take_add_one, hc]; rfl
  rw [e2]
  exact hs _ x _ σ _ e p
end
section
variable {g : TG} {tt : TT} {te : TE} {vs : List Nat} {σ : L2.St} {H1 : Hp} {D : Addr} {Qd : Hp → Prop}
theorem lc_rg {lo : Int} {n : Nat} (Pv : Nat → Hp → Prop) (h0 : Pv 0 (upd H1 D (.lst [])))
    (hs : ∀ i H, i < n → Pv i H → g (.int (lo + i)) (wipe σ vs) H fun σ2 H2 => wipe σ2 vs = wipe σ vs ∧ tt σ2 H2 fun b H3 =>
      if b = true then te σ2 H3 fun y H4 => ∃ acc, H4 D = some (.lst acc) ∧ acc.length < sizeLine ∧ Pv (i + 1) (upd H4 D (.lst (acc ++ [y]))) else Pv (i + 1) H3) (hd : ∀ H, Pv n H → Qd H) :
    ∃ W : Nat → Nat → Hp → Prop, (∃ m, W 0 m (upd H1 D (.lst []))) ∧ ∀ i m H, W i m H →
      ((Itr lo n).stop i H ∧ Qd H) ∨ ((Itr lo n).go i H ∧ ∃ Nx : Hp → Prop, (∀ H', Nx H' → ∃ m', m' < m ∧ W (i + 1) m' H') ∧ ∀ x H', (Itr lo n).yld i H x H' → g x (wipe σ vs) H' fun σ2 H2 => wipe σ2 vs = wipe σ vs ∧ tt σ2 H2 fun b H3 =>
        if b = true then te σ2 H3 fun y H4 => ∃ acc, H4 D = some (.lst acc) ∧ acc.length < sizeLine ∧ Nx (upd H4 D (.lst (acc ++ [y]))) else Nx H3) := lc_range Pv h0 hs hd
theorem lc_str {s : Str} (Pv : List Nat → Hp → Prop) (h0 : Pv [] (upd H1 D (.lst [])))
    (hs : ∀ pre c post H, tl s = pre ++ c :: post → Pv pre H → g (.str ⟨#[c]⟩) (wipe σ vs) H fun σ2 H2 => wipe σ2 vs = wipe σ vs ∧ tt σ2 H2 fun b H3 =>
      if b = true then te σ2 H3 fun y H4 => ∃ acc, H4 D = some (.lst acc) ∧ acc.length < sizeLine ∧ Pv (pre ++ [c]) (upd H4 D (.lst (acc ++ [y]))) else Pv (pre ++ [c]) H3) (hd : ∀ H, Pv (tl s) H → Qd H) :
    ∃ W : Nat → Nat → Hp → Prop, (∃ m, W 0 m (upd H1 D (.lst []))) ∧ ∀ i m H, W i m H →
      ((Its s).stop i H ∧ Qd H) ∨ ((Its s).go i H ∧ ∃ Nx : Hp → Prop, (∀ H', Nx H' → ∃ m', m' < m ∧ W (i + 1) m' H') ∧ ∀ x H', (Its s).yld i H x H' → g x (wipe σ vs) H' fun σ2 H2 => wipe σ2 vs = wipe σ vs ∧ tt σ2 H2 fun b H3 =>
        if b = true then te σ2 H3 fun y H4 => ∃ acc, H4 D = some (.lst acc) ∧ acc.length < sizeLine ∧ Nx (upd H4 D (.lst (acc ++ [y]))) else Nx H3) := by
  have hsz : s.cps.size = (tl s).length := by simp
  refine lc_it walk_str (fun i H => Pv ((tl s).take i) H) (by simpa using h0) (fun _ _ _ _ => True.intro) ?_ (fun H p => hd H (by rw [hsz, List.take_length] at p; exact p))
  rintro i x H H' hi p ⟨rfl, c, hc, rfl⟩
  have hc' : (tl s)[i]? = some c := by simpa using hc
  have hl : i < (tl s).length := by omega
  have e : tl s = (tl s).take i ++ c :: (tl s).drop (i + 1) := by
    have h2 : (tl s)[i] = c := by rw [List.getElem?_eq_getElem hl] at hc'; exact Option.some.inj hc'
    rw [← h2, ← List.drop_eq_getElem_cons hl, List.take_append_drop]
  have e2 : (tl s).take (i + 1) = (tl s).take i ++ [c] := by rw [List.take_add_one, hc']; rfl
  rw [e2]
  exact hs _ c _ _ e p
theorem lc_li {K : PySem.W.Frag} {a : Addr} {xs : List V} (Pv : List V → Hp → Prop) (h0 : Pv [] (upd H1 D (.lst []))) (hl : ∀ pre post H, xs = pre ++ post → Pv pre H → SqL K H a xs)
    (hs : ∀ pre x post H, xs = pre ++ x :: post → Pv pre H → g x (wipe σ vs) H fun σ2 H2 => wipe σ2 vs = wipe σ vs ∧ tt σ2 H2 fun b H3 =>
      if b = true then te σ2 H3 fun y H4 => ∃ acc, H4 D = some (.lst acc) ∧ acc.length < sizeLine ∧ Pv (pre ++ [x]) (upd H4 D (.lst (acc ++ [y]))) else Pv (pre ++ [x]) H3) (hd : ∀ H, Pv xs H → Qd H) :
    ∃ W : Nat → Nat → Hp → Prop, (∃ m, W 0 m (upd H1 D (.lst []))) ∧ ∀ i m H, W i m H →
      ((Itl K a).stop i H ∧ Qd H) ∨ ((Itl K a).go i H ∧ ∃ Nx : Hp → Prop, (∀ H', Nx H' → ∃ m', m' < m ∧ W (i + 1) m' H') ∧ ∀ x H', (Itl K a).yld i H x H' → g x (wipe σ vs) H' fun σ2 H2 => wipe σ2 vs = wipe σ vs ∧ tt σ2 H2 fun b H3 =>
        if b = true then te σ2 H3 fun y H4 => ∃ acc, H4 D = some (.lst acc) ∧ acc.length < sizeLine ∧ Nx (upd H4 D (.lst (acc ++ [y]))) else Nx H3) := by
  refine lc_it (walk_list (xs := xs)) (fun i H => Pv (xs.take i) H) (by simpa using h0) (fun i H _ p => hl (xs.take i) (xs.drop i) H (List.take_append_drop i xs).symm p) ?_ (fun H p => hd H (by rw [List.take_length] at p; exact p))
  rintro i x H H' hi p ⟨rfl, hc⟩
  have e : xs = xs.take i ++ x :: xs.drop (i + 1) := by
    have h2 : xs[i] = x := by rw [List.getElem?_eq_getElem hi] at hc; exact Option.some.inj hc
    rw [← h2, ← List.drop_eq_getElem_cons hi, List.take_append_drop]
  have e2 : xs.take (i + 1) = xs.take i ++ [x] := by rw [List.take_add_one, hc]; rfl
  rw [e2]
  exact hs _ x _ _ e p
end
end FR
set_option Elab.async false
set_option linter.all false
set_option maxRecDepth 100000
/-! names and paths; defs with a star parameter -/
namespace FR
open PySem PySem.Spec PyProof.Rows L2 TL
theorem Keep.trans {M : List Addr} {H H1 H2 : Hp} (a : Keep M H H1) (b : Keep M H1 H2) : Keep M H H2 := fun p o e hp => b p o (a p o e hp) hp
theorem Keep.nil {M : List Addr} {H H1 : Hp} (a : Keep [] H H1) : Keep M H H1 := fun p o e _ => a p o e (by simp)
theorem Ow.sel {H0 H : Hp} {M : List Addr} {L L' : List (Addr × HO)} (W : Ow H0 M H L) (h : L'.Sublist L) : Ow H0 M H L' := ⟨W.keep, fun p hp => W.has p (h.subset hp), (h.map _).nodup W.nd, fun p hp => W.fr p (h.subset hp)⟩
theorem Ow.fresh {H0 H : Hp} {M : List Addr} {L : List (Addr × HO)} {p : Addr} {o : HO} (W : Ow H0 M H ((p, o) :: L)) (h : ∀ x ∈ M, x ∈ L.map (·.1)) : H0 p = none := by
  rcases W.fr _ List.mem_cons_self with r | r
  · exact r
  · exact absurd (h _ r) (List.nodup_cons.mp W.nd).1
theorem Ow.anyN {H0 H H' : Hp} {M : List Addr} {L : List (Addr × HO)} {a p : Addr} {o o' o2 : HO} (W : Ow H0 M H L) (i : Nat) (e : L[i]? = some (a, o)) (k : Keep [a] H H') (h : H' a = some o') (hp : H p = none) (h2 : H' p = some o2) : Ow H0 M H' ((p, o2) :: L.set i (a, o')) where
  keep := (W.any1 i e k h).keep
  has := fun q hq => by
    rcases List.mem_cons.mp hq with rfl | hq
    · exact h2
    · exact (W.any1 i e k h).has q hq
  nd := by
    rw [List.map_cons, List.nodup_cons, map_set_fst e]
    refine ⟨fun hm => ?_, W.nd⟩
    obtain ⟨q, hq, e⟩ := List.mem_map.mp hm
    have := W.has q hq
    rw [show q.1 = p from e, hp] at this
    cases this
  fr := fun q hq => by
    rcases List.mem_cons.mp hq with rfl | hq
    · by_cases hm : p ∈ M
      · exact .inr hm
      · cases e0 : H0 p with
        | none => exact .inl rfl
        | some u =>
          have := W.keep p u e0 hm
          rw [hp] at this
          cases this
    · exact (W.any1 i e k h).fr q hq
/-- a small letter -/
def lc (c : Nat) : Bool := decide (97 ≤ c ∧ c ≤ 122)
theorem lc_alpha : ∀ c : Fin 128, lc c.1 = true → Unicode.isAlpha c.1 = true ∧ Unicode.isLower c.1 = true ∧ (Unicode.isUpper c.1 || Unicode.isTitle c.1) = false := by decide +kernel
theorem all_tl (s : Str) (p : Nat → Bool) : s.cps.all p = (tl s).all p := by simp
theorem any_tl (s : Str) (p : Nat → Bool) : s.cps.any p = (tl s).any p := by simp
theorem isascii_asc {s : Str} (a : Asc s) : Txt.isascii s = true := by
  show s.cps.all (· < 128) = true
  rw [all_tl]
  exact List.all_eq_true.mpr fun c hc => decide_eq_true (a c hc)
/-- a name -/
structure Nm (s : Str) : Prop where
  l0 : 1 ≤ s.length
  l1 : s.length ≤ 8
  lo : ∀ c ∈ tl s, lc c = true
theorem Nm.lt {s : Str} (h : Nm s) {c : Nat} (hc : c ∈ tl s) : 97 ≤ c ∧ c ≤ 122 := of_decide_eq_true (h.lo c hc)
theorem Nm.asc {s : Str} (h : Nm s) : Asc s := fun c hc => by have := h.lt hc; omega
theorem Nm.alpha {s : Str} (h : Nm s) : Txt.isalpha s = true := by
  show (decide (s.length > 0) && s.cps.all Unicode.isAlpha) = true
  rw [all_tl, Bool.and_eq_true, decide_eq_true_eq, List.all_eq_true]
  exact ⟨h.l0, fun c hc => (lc_alpha ⟨c, h.asc c hc⟩ (h.lo c hc)).1⟩
theorem Nm.lower {s : Str} (h : Nm s) : Txt.islower s = true := by
  show (s.cps.any Unicode.isLower && !s.cps.any fun c => Unicode.isUpper c || Unicode.isTitle c) = true
  rw [any_tl, any_tl, Bool.and_eq_true, List.any_eq_true, Bool.not_eq_true', List.any_eq_false]
  refine ⟨?_, fun c hc => by have := (lc_alpha ⟨c, h.asc c hc⟩ (h.lo c hc)).2.2; simpa using this⟩
  have h0 := h.l0
  rw [len_tl] at h0
  obtain ⟨c, hc⟩ := List.exists_mem_of_length_pos h0
  exact ⟨c, hc, (lc_alpha ⟨c, h.asc c hc⟩ (h.lo c hc)).2.1⟩
theorem slash : Str.ofString "/" = ⟨#[47]⟩ := by decide +kernel
theorem tl_slash : tl (Str.ofString "/") = [47] := by decide +kernel
theorem tl_emp : tl (Str.ofString "") = [] := by decide +kernel
/-- names behind slashes -/
def flat (ns : List Str) : List Nat := (ns.map fun s => 47 :: tl s).flatten
def cat (ns : List Str) : Str := ns.foldl (fun a n => (a ++ Str.ofString "/") ++ n) (Str.ofString "")
theorem cat_app (ns : List Str) (n : Str) : cat (ns ++ [n]) = (cat ns ++ Str.ofString "/") ++ n := by
  unfold cat
  rw [List.foldl_append]
  rfl
theorem tl_catF : ∀ (ns : List Str) (a : Str), tl (ns.foldl (fun a n => (a ++ Str.ofString "/") ++ n) a) = tl a ++ flat ns
  | [], a => by simp [flat]
  | n :: r, a => by
    rw [List.foldl_cons, tl_catF r, tl_append, tl_append, tl_slash]
    simp [flat]
theorem tl_cat (ns : List Str) : tl (cat ns) = flat ns := by
  unfold cat
  rw [tl_catF, tl_emp]
  rfl
def Nms (ns : List Str) : Prop := ∀ s ∈ ns, Nm s
theorem Nms.app {a b : List Str} (ha : Nms a) (hb : Nms b) : Nms (a ++ b) := fun s h => (List.mem_append.mp h).elim (ha s) (hb s)
theorem Nms.sub {a b : List Str} (h : Nms b) (s : ∀ x ∈ a, x ∈ b) : Nms a := fun x hx => h x (s x hx)
theorem Nms.take {a : List Str} (h : Nms a) (k : Nat) : Nms (a.take k) := h.sub fun _ => List.mem_of_mem_take
theorem Nms.drop {a : List Str} (h : Nms a) (k : Nat) : Nms (a.drop k) := h.sub fun _ => List.mem_of_mem_drop
theorem Nms.dropLast {a : List Str} (h : Nms a) : Nms a.dropLast := h.sub fun _ hx => (List.dropLast_subset _) hx
theorem Nms.asc {a : List Str} (h : Nms a) : ∀ s ∈ a, Asc s := fun s hs => (h s hs).asc
theorem flat_len : ∀ {ns : List Str}, Nms ns → (flat ns).length ≤ 9 * ns.length
  | [], _ => by simp [flat]
  | n :: r, h => by
    have ih := flat_len (ns := r) fun s hs => h s (List.mem_cons_of_mem _ hs)
    have h1 := (h n List.mem_cons_self).l1
    rw [len_tl] at h1
    show ((47 :: tl n) ++ flat r).length ≤ _
    rw [List.length_append, List.length_cons, List.length_cons]
    omega
theorem cat_len {ns : List Str} (h : Nms ns) : (cat ns).length ≤ 9 * ns.length := by
  rw [len_tl, tl_cat]
  exact flat_len h
def pathOf (ns : List Str) : Str := if ns = [] then Str.ofString "/" else cat ns
theorem pathOf_nil : pathOf [] = Str.ofString "/" := rfl
theorem pathOf_ne {ns : List Str} (h : ns ≠ []) : pathOf ns = cat ns := if_neg h
theorem path_len {ns : List Str} (h : Nms ns) : (pathOf ns).length ≤ 9 * ns.length + 1 := by
  by_cases e : ns = []
  · subst e
    decide +kernel
  · rw [pathOf_ne e]
    exact Nat.le_trans (cat_len h) (by omega)
theorem flat_cons (n : Str) (r : List Str) : flat (n :: r) = 47 :: (tl n ++ flat r) := by simp [flat]
theorem path_starts (ns : List Str) : Txt.startswith (pathOf ns) (Str.ofString "/") = true := by
  rw [slash, starts_one]
  cases ns with
  | nil => decide +kernel
  | cons n r => rw [pathOf_ne (by simp), tl_cat, flat_cons]; rfl
theorem path_slash {ns : List Str} (h : Nms ns) (e : ns ≠ []) : pathOf ns ≠ Str.ofString "/" := fun he => by
  have := congrArg tl he
  rw [pathOf_ne e, tl_cat, tl_slash] at this
  cases ns with
  | nil => exact e rfl
  | cons n r =>
    rw [flat_cons] at this
    have h0 := (h n List.mem_cons_self).l0
    rw [len_tl] at h0
    have h2 := congrArg List.length this
    simp at h2
    simp [h2.1] at h0
theorem cat_emp {ns : List Str} : cat ns = Str.ofString "" ↔ ns = [] := by
  constructor
  · intro h
    cases ns with
    | nil => rfl
    | cons n r =>
      have := congrArg tl h
      rw [tl_cat, flat_cons, tl_emp] at this
      cases this
  · rintro rfl
    rfl
theorem spl_word : ∀ (l acc r : List Nat), (∀ c ∈ l, c ≠ 47) → spl [47] 0 acc (l ++ r) = spl [47] 0 (acc ++ l) r
  | [], acc, r, _ => by simp
  | c :: l, acc, r, h => by
    rw [List.cons_append, spl_miss (by rw [pre_one]; exact decide_eq_false (h c List.mem_cons_self)), spl_word l _ r fun d hd => h d (List.mem_cons_of_mem _ hd)]
    simp
theorem spl_flat : ∀ (ns : List Str) (acc : List Nat), Nms ns → spl [47] 0 acc (flat ns) = acc :: ns.map tl
  | [], acc, _ => by
    show spl [47] 0 acc [] = _
    rw [spl_nil]
    rfl
  | n :: r, acc, h => by
    have hn := h n List.mem_cons_self
    rw [flat_cons, spl_hit (by rw [pre_one]; rfl), List.map_cons]
    show acc :: spl [47] 0 [] (tl n ++ flat r) = _
    rw [spl_word _ _ _ fun c hc => by have := hn.lt hc; omega, spl_flat r _ fun s hs => h s (List.mem_cons_of_mem _ hs)]
    rfl
theorem split_path {ns : List Str} (h : Nms ns) (e : ns ≠ []) : Txt.split (pathOf ns) (Str.ofString "/") = Str.ofString "" :: ns := by
  refine map_tl_inj ?_
  rw [slash, split_tl _ (by decide), pathOf_ne e, tl_cat, spl_flat _ _ h, List.map_cons, tl_emp]
theorem flat_join : ∀ {ns : List Str}, ns ≠ [] → 47 :: joinL [47] (ns.map tl) = flat ns
  | [], h => absurd rfl h
  | [s], _ => by
    rw [flat_cons]
    show 47 :: tl s = 47 :: (tl s ++ [])
    rw [List.append_nil]
  | s :: t :: r, _ => by
    have ih := flat_join (ns := t :: r) (by simp)
    rw [flat_cons, ← ih]
    rfl
theorem join_path (ns : List Str) : Str.ofString "/" ++ Txt.join (Str.ofString "/") ns = pathOf ns := by
  refine ext_tl ?_
  rw [tl_append, join_eq, tl_join, tl_slash]
  cases ns with
  | nil => decide +kernel
  | cons n r =>
    rw [pathOf_ne (by simp), tl_cat]
    exact flat_join (by simp)
theorem names_sum {ns : List Str} (h : Nms ns) : (ns.map (·.length)).sum ≤ ns.length * 8 := sum_le fun s hs => (h s hs).l1
theorem ix_listK {X : Cx} {K : PySem.W.Frag} (h : X.K = K) : IxR X (rIxL K) := h ▸ ix_list
/-! slices -/
theorem cutV_to (xs : List V) (k : Nat) : cutV xs none (some (k : Int)) = xs.take k := by
  show (xs.drop 0).take (HT.sIx xs.length xs.length (some (k : Int)) - 0) = _
  rw [HT.sIx_nat, List.drop_zero, Nat.sub_zero]
  by_cases h : k ≤ xs.length
  · rw [Nat.min_eq_left h]
  · rw [Nat.min_eq_right (by omega), List.take_of_length_le (Nat.le_refl _), List.take_of_length_le (by omega)]
theorem cutV_from (xs : List V) (k : Nat) : cutV xs (some (k : Int)) none = xs.drop k := by
  show (xs.drop (HT.sIx xs.length 0 (some (k : Int)))).take (xs.length - HT.sIx xs.length 0 (some (k : Int))) = _
  rw [HT.sIx_nat]
  by_cases h : k ≤ xs.length
  · rw [Nat.min_eq_left h, List.take_of_length_le (by rw [List.length_drop]; exact Nat.le_refl _)]
  · rw [Nat.min_eq_right (by omega), Nat.sub_self, List.take_zero, List.drop_of_length_le (by omega)]
theorem cutV_last (xs : List V) : cutV xs none (some (-1)) = xs.dropLast := by
  show (xs.drop 0).take (((-1 : Int) + (xs.length : Int)).toNat - 0) = _
  rw [List.drop_zero, Nat.sub_zero, List.dropLast_eq_take, show ((-1 : Int) + (xs.length : Int)).toNat = xs.length - 1 by omega]
theorem tl_cutTo (s : Str) (k : Nat) : tl (cutS s none (some (k : Int))) = (tl s).take k := by
  rw [tl_cutS]
  show ((tl s).drop 0).take (HT.sIx s.length s.length (some (k : Int)) - 0) = _
  rw [HT.sIx_nat, len_tl, List.drop_zero, Nat.sub_zero]
  by_cases h : k ≤ (tl s).length
  · rw [Nat.min_eq_left h]
  · rw [Nat.min_eq_right (by omega), List.take_of_length_le (Nat.le_refl _), List.take_of_length_le (by omega)]
theorem eqv_strs2 : ∀ a b : List Str, PyData.eqvAll (a.map .str) (b.map .str) = decide (a = b)
  | [], [] => rfl
  | [], _ :: _ => rfl
  | _ :: _, [] => rfl
  | x :: a, y :: b => by
    rw [List.map_cons, List.map_cons, PyData.eqvAll, eqv_strs2 a b, PyData.eqv]
    by_cases h : x = y
    · subst h
      simp
    · simp [h]
theorem eqv_lists (a b : List Str) : PyData.eqv (dStrs a) (dStrs b) = decide (a = b) := by
  unfold dStrs
  rw [PyData.eqv, eqv_strs2]
theorem shaped_names {ns : List Str} (h : Nms ns) : SeqAt.shaped (dStrs ns) = true := shaped_strs h.asc
/-! ### a walk over a tuple by what is behind -/
section
variable {g : TG} {tb : TS} {D : Ends} {σ : L2.St} {H : Hp}
theorem for_tu {K : PySem.W.Frag} {a : Addr} {xs : List V} (Pv : List V → L2.St → Hp → Prop) (h0 : Pv [] σ H) (hl : ∀ pre post σ H, xs = pre ++ post → Pv pre σ H → SqT K H a xs)
    (hs : ∀ pre x post σ H, xs = pre ++ x :: post → Pv pre σ H → g x σ H fun σ2 H2 => tb { D with nx := Pv (pre ++ [x]), ct := Pv (pre ++ [x]), bk := D.nx } σ2 H2) (hd : ∀ σ H, Pv xs σ H → D.nx σ H) :
    ∃ W : Nat → Nat → L2.St → Hp → Prop, (∃ m, W 0 m σ H) ∧ ∀ i m σ H, W i m σ H →
      ((Itt K a).stop i H ∧ D.nx σ H) ∨ ((Itt K a).go i H ∧ ∃ N : L2.St → Hp → Prop, (∀ σ' H', N σ' H' → ∃ m', m' < m ∧ W (i + 1) m' σ' H') ∧ ∀ x H', (Itt K a).yld i H x H' → g x σ H' fun σ2 H2 => tb { D with nx := N, ct := N, bk := D.nx } σ2 H2) := by
  refine for_it (walk_tup (xs := xs)) (fun i σ H => Pv (xs.take i) σ H) (by simpa using h0) (fun i σ H _ p => hl (xs.take i) (xs.drop i) σ H (List.take_append_drop i xs).symm p) ?_ (fun σ H p => hd σ H (by rw [List.take_length] at p; exact p))
  rintro i x σ H H' hi p ⟨rfl, hc⟩
  have e : xs = xs.take i ++ x :: xs.drop (i + 1) := by
    have h2 : xs[i] = x := by rw [List.getElem?_eq_getElem hi] at hc; exact Option.some.inj hc
    rw [← h2, ← List.drop_eq_getElem_cons hi, List.take_append_drop]
  have e2 : xs.take (i + 1) = xs.take i ++ [x] := by rw [List.take_add_one, hc]; rfl
  rw [e2]
  exact hs _ x _ σ _ e p
end
/-! ### defs with a star parameter, and their calls -/
theorem okStar {P : Program} {w : World} {K : PySem.W.Frag} {mg : Str → Option Value} {base : Heap} {x qual pv : Str} {st : Stmt} {f : Addr} {fd : FuncData} {N ps : List Str} {k : Nat} {sp : Sp} (F : L2.Fun K x qual st f fd) (S : FnScope N (ps ++ [pv]) (defScope st))
    (hb : ∀ (kV doc pm : Value) (an : Option Addr) (cdv ct : Value) (us rest : List Value), us.length = ps.length → bindArgs (PySem.W.fnOf x qual (defArgs st) (defBody st) (defScope st) .none kV doc pm an cdv ct) ⟨us ++ rest, []⟩ = (newTuple rest >>= fun t => pure (ps.zip us ++ [(pv, t)])))
    (hbody : ∀ (cdv : Value) (A : Around) (outer : List Env) (s : Shared) (H : Hp) (vs : List V) (Q : VK) (E : XK), Room k (A.deeper (envOfC qual (defScope st) s.heap.objs.size f cdv)) → sp vs H Q E →
      ∃ t, PSs (cxOf CX0 P w K mg base N qual (defScope st) f cdv A outer s H E).nox (defBody st) t ∧ t { nx := fun _ H' => Q .non H', rt := Q } (start N vs) H) :
    FnR P w K mg base CX0 (k + 1) f (fun vs H Q E => ∃ ws rest, vs = ws ++ rest ∧ ws.length = ps.length ∧ rest.length ≤ sizeLine ∧ ∀ p, H p = Option.none → sp (ws ++ [V.ref p]) (upd H p (.tup rest)) Q E) := by
  obtain ⟨oc, od, kV, doc, pm, an, cdv, ct, osl, rfl, lk, hcd⟩ := F.ex
  refine StX.fn_star lk hcd S StX.cxUp_none (hb kV doc pm an cdv ct) fun A outer s H vs Q E hr hsp => ?_
  obtain ⟨t, h, q⟩ := hbody cdv A outer s H vs Q E hr hsp
  exact ⟨t, h.nox, q⟩
section
variable {X : Cx} {CX : CXT} {k : Nat} {f : Addr} {sp : Sp} {E : XK} {x : Str} {e : Expr} {es : List Expr} {t : TA} {p pos : Pos}
theorem pe_callRN (F : FnR X.prog X.w X.K X.mg X.base CX k f sp) (hr : Room k X.A) (hk : PySem.W.keepIn X.K (.ref f) = true) (hg : Gl X x) (hm : X.mg x = some (.ref f)) (hx : Passes CX X E) (ha : PA X (e :: es) t) (hd : (x == ("__debug__" : Str)) = false := by decide)
    (he : starEach (e :: es) X.env = (false, eval e X.env) :: starEach es X.env := by rfl) (hpl : (backTo pos (starEach es X.env)).any (·.1) = false := by rfl) :
    PE X (.Call (.Name x p) (e :: es) [] pos) (fun σ H Q => t σ H fun vs H1 => sp vs H1 Q E) := by
  refine ⟨fun pins s σ H Q I h => ?_⟩
  refine wpAny_Call_Name_kw (ld_glob I hg hm ?_ hd)
  refine PySem.W.callWith_K (h₀ := X.base) I.ok.mod.kin hk (thn (ha.run pos pins s σ H _ I h) fun us s1 ⟨vs, H1, I1, r, q⟩ => ⟨I1.kIn, ?_⟩) he hpl
  exact wpAny_call (run_fnR F hr hx I1 r q)
end

end FR
set_option Elab.async false
set_option linter.all false
set_option maxRecDepth 100000
namespace FR
open PySem PySem.Spec PyProof.Rows L2 TL
theorem pe_joinK {X : Cx} {K : PySem.W.Frag} {o e : Expr} {to te : TE} {apos pos : Pos} (h : X.K = K) (ho : PE X o to) (he : PE X e te) (hs : starEach [e] X.env = [(false, eval e X.env)] := by rfl) (hbase : attributeBase o "join" X.env (eval o X.env) = eval o X.env := by rfl) (hline : (apos.endLine == pos.line) = true := by rfl) :
    PE X (.Call (.Attribute o "join" apos) [e] [] pos) (tM1 (fun x xs H Q => ∃ a p, ∃ ys : List Str, x = .str a ∧ xs = [.ref p] ∧ (SqL K H p (ys.map V.str) ∨ SqT K H p (ys.map V.str)) ∧
      (ys.map (·.length)).sum + ys.length * a.length ≤ 16777216 ∧ Q (.str (Txt.join a ys)) H) to te) := h ▸ pe_join ho he hs hbase hline
end FR
set_option Elab.async false
set_option linter.all false
set_option maxRecDepth 100000
/-! promises that also know that no repr is under way; repr of data -/
namespace FR
open PySem PySem.Spec PyProof.Rows L2 TL
def FnG (P : Program) (w : World) (K : PySem.W.Frag) (mg : Str → Option Value) (base : Heap) (CX : CXT) (k : Nat) (f : Addr) (sp : Sp) : Prop :=
  ∀ (A : Around) (outer : List Env) (s : Shared) (H : Hp) (us : List Value) (vs : List V) (Q : VK) (E : XK), A.guards = some [] → Room k A → Env0 P w K mg base A outer s H → Vals vs us → sp vs H Q E → codeAny (model P w) A (.call (.ref f) ⟨us, []⟩) (CR CX outer P w H s Q E) s
section
variable {P : Program} {w : World} {K : PySem.W.Frag} {mg : Str → Option Value} {base : Heap} {CX : CXT} {k : Nat} {f : Addr} {sp : Sp}
theorem FnG.of (F : FnR P w K mg base CX k f sp) : FnG P w K mg base CX k f sp := fun A outer s H us vs Q E _ hr e0 r hs => F A outer s H us vs Q E hr e0 r hs
theorem okG {x qual : Str} {st : Stmt} {fd : FuncData} {N ps : List Str} (F : L2.Fun K x qual st f fd) (S : FnScope N ps (defScope st)) (B : Binds K fd ps []) (hlen : ∀ vs H Q E, sp vs H Q E → vs.length = ps.length)
    (hbody : ∀ (cdv : Value) (A : Around) (outer : List Env) (s : Shared) (H : Hp) (vs : List V) (Q : VK) (E : XK), A.guards = some [] → Room k (A.deeper (envOfC qual (defScope st) s.heap.objs.size f cdv)) → sp vs H Q E →
      ∃ t, PSs (cxOf CX P w K mg base N qual (defScope st) f cdv A outer s H E) (defBody st) t ∧ t { nx := fun _ H' => Q .non H', rt := Q } (start N vs) H) : FnG P w K mg base CX (k + 1) f sp := by
  intro A outer s H us vs Q E hg hr e0 r hsp
  obtain ⟨oc, od, kV, doc, pm, an, cdv, ct, osl, rfl, lk, hcd⟩ := F.ex
  have hv : vs.length = ps.length := hlen _ _ _ _ hsp
  have hu : us.length = ps.length := by rw [← r.length]; exact hv
  have KI : K.In s.heap := e0.mod.kin.keeps fun b o e => (e0.bs b o e).1
  have b0 := B s us KI (by rw [List.append_nil]; exact hu)
  rw [List.append_nil] at b0
  refine StX.run_bnd lk hcd S hr e0 (G := fun xs H2 => xs = vs ∧ H2 = H) (fun A' Ex Q' h => ?_) fun s2 H2 xs ⟨ex, eH⟩ hr' => ?_
  · exact b0 _ _ _ _ (h s H vs us e0 Un.refl rfl (fun _ _ z => z) r hv ⟨rfl, rfl⟩)
  · subst ex eH
    exact hbody cdv A outer s2 _ _ Q E hg hr' hsp
end
section
variable {X : Cx} {CX : CXT} {k : Nat} {f : Addr} {sp : Sp} {E : XK} {x : Str} {e : Expr} {es : List Expr} {t : TA} {p pos : Pos}
theorem pe_callG (F : FnG X.prog X.w X.K X.mg X.base CX k f sp) (hgd : X.A.guards = some []) (hr : Room k X.A) (hk : PySem.W.keepIn X.K (.ref f) = true) (hg : Gl X x) (hm : X.mg x = some (.ref f)) (hx : Passes CX X E) (ha : PA X (e :: es) t) (hd : (x == ("__debug__" : Str)) = false := by decide)
    (he : starEach (e :: es) X.env = (false, eval e X.env) :: starEach es X.env := by rfl) (hpl : (backTo pos (starEach es X.env)).any (·.1) = false := by rfl) :
    PE X (.Call (.Name x p) (e :: es) [] pos) (fun σ H Q => t σ H fun vs H1 => sp vs H1 Q E) := ⟨fun pins s σ H Q I h => by
  refine wpAny_Call_Name_kw (ld_glob I hg hm (PySem.W.callWith_K (h₀ := X.base) I.ok.mod.kin hk (thn (ha.run pos pins s σ H _ I h) fun us s1 hz => ?_) he hpl) hd)
  obtain ⟨vs, H1, I1, r, q⟩ := hz
  refine ⟨I1.kIn, wpAny_call (codeAny_mono (F X.A X.stack s1 H1 us vs Q E hgd hr I1.env0 r q) fun rr s' hq => ?_)⟩
  match rr, hq with
  | .error ee, hq => exact hx pins σ H1 s1 ee s' I1 hq
  | .ok (.ret u), hq => exact I1.after hq
  | .ok .next, hq => exact hq.elim
  | .ok .brk, hq => exact hq.elim
  | .ok .cont, hq => exact hq.elim⟩
/-- repr of data without dicts -/
def rReprD (K : PySem.W.Frag) : List V → Hp → VK → Prop := fun xs H Q => ∃ (p : Addr) (d : PyData), xs = [.ref p] ∧ Dp K H (.ref p) d ∧ d.showable = true ∧ d.hasDict = false ∧ d.depth ≤ 50 ∧ d.shown.length ≤ sizeLine ∧ Q (.str d.shown) H
theorem call_reprD (hgd : X.A.guards = some []) (hu : X.A.units + 65 < cLine) : CallR X (.builtin "repr") (rReprD X.K) := fun pins s σ H xs us Q I r h => by
  obtain ⟨p, d, rfl, hd, hs, hnd, hdp, hz, q⟩ := h
  obtain ⟨u, rfl, ru⟩ : ∃ u, us = [u] ∧ RelV (.ref p) u := by
    cases r with
    | cons a b => cases b; exact ⟨_, rfl, a⟩
  cases (show u = Value.ref p from ru)
  obtain ⟨as, rd⟩ := Dp.reads I d _ _ hd ru
  exact repr_of_reads' rd hs (fun e => by rw [hnd] at e; cases e) hgd (by omega) (fun _ _ e => e) (fun h' u tk hk => ⟨.str d.shown, H, I.kept hk, ⟨_, rfl⟩, q⟩) hz
end
/-! ### the end of a row, for such a promise -/
theorem law_callG {P : Program} {w : World} {K : PySem.W.Frag} {mg mb : Str → Option Value} {k : Nat} {fa a : Addr} {sp : Sp} {s1 : Shared} {vs : List Value} {ns : List Int}
    (KX : K.In s1.heap) (hns : s1.heap.Ns mainGlobals mg) (hb : s1.heap.Ns builtinsNs mb) (hbb : ∀ x : Str, x ≠ "__name__" → mb x = bootBuiltins x) (hlim : s1.heap.NoLimit) (hg : s1.gens = #[])
    (ha : s1.heap.get? a = some { cls := .type "list", data := .seq vs.toArray }) (hi : IntsAre vs ns) (hl : ns.length ≤ sizeLine) (hr : Room k callerA)
    (F : ∀ base : Heap, K.In base → base.Ns mainGlobals mg → FnG P w K mg base CX0 k fa sp)
    (hsp : ∀ H : Hp, Only H → SqL K H a (ns.map V.int) → sp [.ref a] H (fun v _ => v = .bl true) fun _ _ _ => False) :
    codeAny (model P w) callerA (.call (.ref fa) ⟨[.ref a], []⟩) (fun r s' => r = .ok (.ret (.bool true)) ∧ OldK s1.heap s'.heap ∧ s'.os = s1.os ∧ AllBare s'.gens) s1 := by
  have rv := vals_ints hi
  have lv := hi.length
  have main : ∀ H : Hp, Only H → SqL K H a (ns.map V.int) → HOk P w H s1.heap → (∀ b, H b ≠ none → b = a) → (H a ≠ none → K.lookup a = none) →
      codeAny (model P w) callerA (.call (.ref fa) ⟨[.ref a], []⟩) (fun r s' => r = .ok (.ret (.bool true)) ∧ OldK s1.heap s'.heap ∧ s'.os = s1.os ∧ AllBare s'.gens) s1 := by
    intro H hO hS hok hA hK
    have free : ∀ {b : Addr} {o : Obj} {es : Array DictEntry} {ep : Nat}, s1.heap.get? b = some o → o.data = .dict es ep → H b = none := by
      intro b o es ep e d
      refine Classical.byContradiction fun q => ?_
      cases hA b q
      cases ha.symm.trans e
      cases d
    have nsT : ∀ {b : Addr} {m : Str → Option Value}, s1.heap.Ns b m → (hidT s1.heap H).Ns b m := by
      intro b m ⟨o, es, ep, e, d, r⟩
      exact ⟨o, es, ep, hidT_get e (free e d), d, r⟩
    have KT : K.In (hidT s1.heap H) := by
      intro b o e
      refine hidT_get (KX b o e) (Classical.byContradiction fun q => ?_)
      cases hA b q
      cases (hK q).symm.trans e
    have md : Mod K mg (hidT s1.heap H) := ⟨KT, nsT hns, ⟨mb, nsT hb, hbb⟩, hlim.elim fun mc hc => ⟨mc, nsT hc.1, hc.2⟩⟩
    have en : Env0 P w K mg (hidT s1.heap H) callerA [] s1 H := ⟨rfl, md, fun _ _ e => of_hidT e, Nat.le_of_eq (hidT_size ..), True.intro, fun _ hb => (List.not_mem_nil hb).elim, hok, AllBare.of_eq hg⟩
    refine codeAny_mono (F _ KT (nsT hns) callerA [] s1 H [.ref a] [.ref a] _ _ rfl hr en (.cons rfl .nil) (hsp H hO hS)) fun r s' h => ?_
    match r, h with
    | .error e, h => exact h.elim
    | .ok .next, h => exact h.elim
    | .ok .brk, h => exact h.elim
    | .ok .cont, h => exact h.elim
    | .ok (.ret u), h =>
      obtain ⟨v, H', os, bare, un, hok', rr, q⟩ := h
      cases (show v = .bl true from q)
      cases (show u = Value.bool true from rr)
      refine ⟨rfl, OldK.of_keep fun b o e => ?_, os, bare⟩
      rcases hO b with z | ⟨ob, xs, z⟩
      · exact un.keep b o e z (fun y => (List.not_mem_nil y).elim) (List.not_mem_nil)
      · have t1 := (hok b _ z).1
        have t2 := (hok' b _ (un.frzs b ob _ z)).1
        rw [e] at t1
        cases t1
        exact t2
  cases hk : K.lookup a with
  | some o =>
    cases ha.symm.trans (KX a o hk)
    exact main (fun _ => none) (fun _ => Or.inl rfl) (Or.inr ⟨_, vs.toArray, _, hk, rfl, rfl, rfl, by rw [List.size_toArray, lv]; exact hl, by simpa using rv⟩) (fun b u z => nomatch (show (none : Option HO) = some u from z)) (fun b z => (z rfl).elim) (fun z => (z rfl).elim)
  | none =>
    have hs : ∀ b : Addr, b = a → (if b = a then some (HO.frz { cls := .type "list", data := .seq vs.toArray } (.lst (ns.map V.int))) else none) = some (HO.frz { cls := .type "list", data := .seq vs.toArray } (.lst (ns.map V.int))) := fun b e => if_pos e
    have hn : ∀ b : Addr, b ≠ a → (if b = a then some (HO.frz { cls := .type "list", data := .seq vs.toArray } (.lst (ns.map V.int))) else none) = none := fun b e => if_neg e
    refine main (fun b => if b = a then some (HO.frz { cls := .type "list", data := .seq vs.toArray } (.lst (ns.map V.int))) else none) (fun b => ?_) (Or.inl (Or.inr ⟨_, hs a rfl⟩)) (fun b u z => ?_) (fun b z => Classical.byContradiction fun e => z (hn b e)) (fun _ => hk)
    · by_cases e : b = a
      · exact Or.inr ⟨_, _, hs b e⟩
      · exact Or.inl (hn b e)
    · by_cases e : b = a
      · cases (hs b e).symm.trans z
        subst e
        exact ⟨ha, by rw [List.length_map]; exact hl, vs, _, rv, ha⟩
      · cases (hn b e).symm.trans z
theorem walk_ofG {l : PySem.W.OpenLaw} {n k : Nat} {q : Program} {loose : List Str} {XP : (Str → Option Value) → Heap → Prop} {YP : World → Heap → Prop} {d : DefRec} {K : Params → PySem.W.Frag} {sp : World → Sp}
    (hn : l.most = some n) (hn2 : n ≤ sizeLine) (hdf : d.params.defaults = []) (hr : Room k callerA) (hY : ∀ (w : World) (h : Heap), YP w h → (K w.params).In h)
    (F : ∀ (w : World) (mg : Str → Option Value) (fa : Addr) (h : Heap), (K w.params).In h → h.Ns mainGlobals mg → mg d.name = some (.ref fa) →
      ∀ base : Heap, (K w.params).In base → base.Ns mainGlobals mg → FnG l.prog w (K w.params) mg base CX0 k fa (sp w))
    (hsp : ∀ (w : World) (H : Hp) (a : Addr) (ns : List Int), ns.length ≤ n → Only H → SqL (K w.params) H a (ns.map V.int) → sp w [.ref a] H (fun v _ => v = .bl true) fun _ _ _ => False) :
    PySem.W.WalkO q loose XP YP l.row.toRowW d [] (fun f vs => PySem.call f vs) := by
  refine Att.attach_call hn hdf fun w s0 s1 mg mb fa o pm cd doc a vs ns G Y ho hd hcd hmg hobj hints hlen hg => ?_
  have KX := hY w _ Y
  exact law_callG KX G.T.g G.T.b G.T.builtins G.T.nolimit hg hobj hints (Nat.le_trans hlen hn2) hr (F w mg fa _ KX G.T.g hmg) fun H hO hS => hsp w H a ns hlen hO hS
end FR
set_option Elab.async false
set_option linter.all false
set_option maxRecDepth 100000
/-! repr of data with dicts -/
namespace FR
open PySem PySem.Spec PyProof.Rows L2 TL
def kD : Key → PyData
  | .inl i => .int i
  | .inr x => .str x
mutual
/-- x stands for the datum d, lists, tuples and dicts of this run all the way -/
inductive Dq (H : Hp) : V → PyData → Prop
  | non : Dq H .non .none
  | bl (b : Bool) : Dq H (.bl b) (.bool b)
  | int (i : Int) : Dq H (.int i) (.int i)
  | str (x : Str) : Dq H (.str x) (.str x)
  | lst {a : Addr} {xs : List V} {ds : List PyData} : H a = some (.lst xs) → sysModules < a → DqAll H xs ds → Dq H (.ref a) (.list ds)
  | tup {a : Addr} {xs : List V} {ds : List PyData} : H a = some (.tup xs) → DqAll H xs ds → Dq H (.ref a) (.tuple ds)
  | dct {a : Addr} {kvs : List (Key × V)} {ds : List (PyData × PyData)} : H a = some (.dK kvs) → DqKv H kvs ds → Dq H (.ref a) (.dict ds)
inductive DqAll (H : Hp) : List V → List PyData → Prop
  | nil : DqAll H [] []
  | cons {v : V} {vs : List V} {d : PyData} {ds : List PyData} : Dq H v d → DqAll H vs ds → DqAll H (v :: vs) (d :: ds)
inductive DqKv (H : Hp) : List (Key × V) → List (PyData × PyData) → Prop
  | nil : DqKv H [] []
  | cons {k : Key} {v : V} {vs : List (Key × V)} {d : PyData} {ds : List (PyData × PyData)} : Dq H v d → DqKv H vs ds → DqKv H ((k, v) :: vs) ((kD k, d) :: ds)
end
section
variable {X : Cx} {pins : List (Addr × Obj)} {σ : L2.St} {H : Hp} {s : Shared}
theorem kD_reads (k : Key) {u : Value} (h : keyIs k u = true) : Reads s.heap u (kD k) [] := by
  rcases keyIs_shape h with ⟨i, t, rfl, rfl⟩ | ⟨x, t, rfl, rfl⟩
  · exact .int i t
  · exact .str x t
mutual
theorem Dq.reads (I : Inv X pins σ H s) : ∀ (d : PyData) (v : V) (u : Value), Dq H v d → RelV v u → ∃ as, Reads s.heap u d as ∧ sysModules ∉ as
  | .none, _, _, h, r => by
    cases h
    cases r
    exact ⟨_, Reads.none, by simp⟩
  | .bool b, _, _, h, r => by
    cases h
    cases r
    exact ⟨_, Reads.bool b, by simp⟩
  | .int i, _, _, h, r => by
    cases h
    obtain ⟨t, rfl⟩ := r
    exact ⟨_, Reads.int i t, by simp⟩
  | .str x, _, _, h, r => by
    cases h
    obtain ⟨t, rfl⟩ := r
    exact ⟨_, Reads.str x t, by simp⟩
  | .list ds, _, _, h, r => by
    cases h with
    | lst hs hb ha =>
      cases r
      obtain ⟨_, its, n, rv, e⟩ := (show ObjOk X.prog X.w H s.heap _ (.lst _) from I.hok _ _ hs)
      obtain ⟨as, q, z⟩ := Dq.readsAll I ds _ _ ha rv
      exact ⟨_, Reads.list e rfl rfl q, fun h => (List.mem_cons.mp h).elim (fun e => by rw [← e] at hb; exact absurd hb (Nat.lt_irrefl _)) z⟩
  | .tuple ds, _, _, h, r => by
    cases h with
    | tup hs ha =>
      cases r
      obtain ⟨_, its, rv, o, e, hc, n, hd⟩ := (show ObjOk X.prog X.w H s.heap _ (.tup _) from I.hok _ _ hs)
      obtain ⟨as, q, z⟩ := Dq.readsAll I ds _ _ ha rv
      exact ⟨_, Reads.tuple e hc hd q, z⟩
  | .dict ds, _, _, h, r => by
    cases h with
    | dct hs ha =>
      cases r
      obtain ⟨_, ns, vs, kv, o, es, ep, e, hx, hd, _, hp, _⟩ := (show ObjOk X.prog X.w H s.heap _ (.dK _) from I.hok _ _ hs)
      obtain ⟨bs, q1, q2, z⟩ := Dq.readsKv I ds _ _ es.toList ha kv hp
      exact ⟨_, Reads.dict e hx.1 hd q1 q2, fun h => (List.mem_append.mp h).elim (fun h => (List.mem_cons.mp h).elim (fun e => by rw [← e] at ns; simp at ns) (fun h => by simp at h)) z⟩
theorem Dq.readsAll (I : Inv X pins σ H s) : ∀ (ds : List PyData) (vs : List V) (us : List Value), DqAll H vs ds → Vals vs us → ∃ as, ReadsAll s.heap us ds as ∧ sysModules ∉ as
  | [], _, _, h, r => by
    cases h
    cases r
    exact ⟨_, ReadsAll.nil, by simp⟩
  | d :: ds, _, _, h, r => by
    cases h with
    | cons h1 h2 =>
      cases r with
      | cons r1 r2 =>
        obtain ⟨as, q1, z1⟩ := Dq.reads I d _ _ h1 r1
        obtain ⟨bs, q2, z2⟩ := Dq.readsAll I ds _ _ h2 r2
        exact ⟨_, ReadsAll.cons q1 q2, fun h => (List.mem_append.mp h).elim z1 z2⟩
theorem Dq.readsKv (I : Inv X pins σ H s) : ∀ (ds : List (PyData × PyData)) (kvs : List (Key × V)) (vs : List (Key × Value)) (es : List DictEntry), DqKv H kvs ds → KV kvs vs → Pairs (mixKind X.prog X.w) es vs →
    ∃ bs, ReadsAll s.heap (es.map (·.key)) (ds.map (·.1)) [] ∧ ReadsAll s.heap (es.map (·.val)) (ds.map (·.2)) bs ∧ sysModules ∉ bs
  | [], _, _, _, h, r, p => by
    cases h
    cases r
    cases p
    exact ⟨_, ReadsAll.nil, ReadsAll.nil, by simp⟩
  | d :: ds, _, _, _, h, r, p => by
    cases h with
    | cons h1 h2 =>
      cases r with
      | cons r1 r2 =>
        cases p with
        | cons p1 p2 p3 =>
          obtain ⟨as, q1, z1⟩ := Dq.reads I _ _ _ h1 r1.2
          obtain ⟨bs, q2, q3, z2⟩ := Dq.readsKv I ds _ _ _ h2 r2 p3
          have p1' := p1
          rw [← r1.1] at p1'
          refine ⟨_, ?_, ?_, fun h => (List.mem_append.mp h).elim z1 z2⟩
          · exact ReadsAll.cons (as := []) (bs := []) (kD_reads _ (show keyIs _ _ = true from p1')) q2
          · rw [List.map_cons, List.map_cons, p2]
            exact ReadsAll.cons q1 q3
end
end
/-! lists at an address behind sysModules -/
structure NewS (o : HO) (Q : VK) (H : Hp) : Prop where
  to : ∀ (p : Addr) (H' : Hp), H p = none → sysModules < p → Keep [] H H' → H' p = some o → Q (.ref p) H'
section
variable {X : Cx} {es : List Expr} {t : TA} {pos : Pos}
def tLstS (t : TA) : TE := fun σ H Q => t σ H fun xs H1 => xs.length ≤ sizeLine ∧ NewS (.lst xs) Q H1
theorem pe_lstS (h : PA X es t) : PE X (.List es pos) (tLstS t) := by
  refine ⟨fun pins s σ H Q I hq => wpAny_List_spliced (thn (h.run _ pins s σ H _ I hq) fun us s1 hh => ?_)⟩
  obtain ⟨xs, H1, I1, r, z, q⟩ := hh
  refine ⟨by rw [← r.length]; exact z, .ref s1.heap.objs.size, upd H1 s1.heap.objs.size (.lst xs), I1.laid (t' := s1.toks) (fun _ _ e => Heap.get?_push_of_some _ e) (Nat.le_refl _) ⟨z, us, 0, r, Heap.get?_push_size _ rfl⟩, rfl, ?_⟩
  exact q.to _ _ (I1.hok.fresh (Nat.le_refl _)) I1.big (keep_new (I1.hok.fresh (Nat.le_refl _))) upd_same
end
section
variable {X : Cx}
def rReprQ : List V → Hp → VK → Prop := fun xs H Q => ∃ (p : Addr) (d : PyData), xs = [.ref p] ∧ Dq H (.ref p) d ∧ d.showable = true ∧ d.depth ≤ 50 ∧ d.shown.length ≤ sizeLine ∧ Q (.str d.shown) H
theorem call_reprQ (hgd : X.A.guards = some []) (hu : X.A.units + 65 < cLine) : CallR X (.builtin "repr") rReprQ := fun pins s σ H xs us Q I r h => by
  obtain ⟨p, d, rfl, hd, hs, hdp, hz, q⟩ := h
  obtain ⟨u, rfl, ru⟩ : ∃ u, us = [u] ∧ RelV (.ref p) u := by
    cases r with
    | cons a b => cases b; exact ⟨_, rfl, a⟩
  cases (show u = Value.ref p from ru)
  obtain ⟨as, rd, hsm⟩ := Dq.reads I d _ _ hd ru
  exact repr_of_reads' rd hs (fun _ => hsm) hgd (by omega) (fun _ _ e => e) (fun h' u tk hk => ⟨.str d.shown, H, I.kept hk, ⟨_, rfl⟩, q⟩) hz
end
end FR
set_option Elab.async false
set_option linter.all false
set_option maxRecDepth 100000
set_option maxHeartbeats 2000000
/-! exceptions of the program with one field, value -/
namespace PySem
namespace ExV
open PySem.W PySem.Calls PyProof.Rows PySem.HandSPX
/-! ### the text of __init__ -/
def iA (p1 p2 : Pos) : Arguments := { posonlyargs := [], args := [{ arg := "self", annotation := none, pos := p1 }, { arg := "value", annotation := none, pos := p2 }], vararg := none, kwonlyargs := [], kw_defaults := [], kwarg := none, defaults := [] }
def iB (q1 q2 q3 q4 : Pos) : List Stmt := [.Assign [.Attribute (.Name "self" q1) "value" q2] (.Name "value" q3) q4]
def iS : Scope := { kind := .function, names := [(PySem.Str.ofString "self", .local), (PySem.Str.ofString "value", .local)], isGenerator := false, isCoroutine := false, more := [] }
/-- what the written part says of Low, at C, and of its __init__, at fI -/
structure LowTxt (K : Frag) (mg : Str → Option Value) (cn qn : Str) (C fI : Addr) : Prop where
  gC : mg cn = some (.ref C)
  cls : ∃ nm q N bs bm sn sub ab col dd k0 k1 k2 k3 k5, K.lookup C = some (excClassObj nm q C N bs bm true sn sub ab col dd k0 k1 k2 k3 k5 "ValueError.__new__") ∧ refsVE bm = true
  sa : findIn K (.ref C) "__setattr__" = some (some (.builtin "object.__setattr__"))
  ga : findIn K (.ref C) "__getattribute__" = some (some (.builtin "BaseException.__getattribute__"))
  gg : findIn K (.ref C) "__getattr__" = some none
  noN : findIn K (.ref C) "value" = some none
  iC : findIn K (.ref C) "__init__" = some (some (.ref fI))
  tC : typeIn K (.ref fI) = some (.type "function")
  kC : keepIn K (.ref C) = true
  exC : subIn K (.ref C) (.type "BaseException") = some true
  tyC : typeIn K (.ref C) = some (.type "type")
  hdC : hasDictIn K C = true
  te : exmOne K (.ref C) (.ref C) = some true
  fn : ∃ (oc : Value) (od : Option Addr) (doc pm : Value) (an : Option Addr) (cdv ct : Value) (osl : Array (Option Value)) (p1 p2 q1 q2 q3 q4 : Pos),
    K.lookup fI = some ⟨oc, od, .func (fnOf "__init__" qn (iA p1 p2) (iB q1 q2 q3 q4) iS .none .none doc pm an cdv ct), osl⟩ ∧ codeIn K cdv qn = true
theorem one_size (v : Value) : [v].length ≤ sizeLine := by
  rw [sizeLine_eq]
  exact (by decide : 1 ≤ 16777216)
theorem kept_but {K : Frag} {h h' : Heap} {x : Addr} (X : K.In h) (hx : K.lookup x = none) (k : ∀ b o, b ≠ x → h.get? b = some o → h'.get? b = some o) : K.In h' := fun a o e =>
  k a o (fun z => by rw [z, hx] at e; cases e) (X a o e)
theorem ldC {M : Model} {s : Shared} {name : Str} {scope : Scope} {L a : Addr} {cd : Value} {m : Str → Option Value} {x : Str} {pos : Pos} {v : Value} {Q : Value → Shared → Prop} {A : Around} {E : Value → Shared → Prop} (hn : s.heap.Ns L m) (hv : m x = some v) (h : Q v s)
    (hk : scope.kind = .function := by rfl) (hl : (envOfC name scope L a cd).kindOf x = some .local := by rfl) (hd : (x == ("__debug__" : Str)) = false := by decide) :
    wpAny M A (eval (.Name x pos) (envOfC name scope L a cd)) Q E s := wpAny_Name (wpAny_loadName_local hk hl hn hv h) hd
/-- what __init__ leaves of a fresh exception at x -/
structure InitEnd (h h' : Heap) (x C dx t1 : Addr) (v : Value) : Prop where
  keep : ∀ b o, b ≠ x → h.get? b = some o → h'.get? b = some o
  obj : h'.get? x = some { cls := .ref C, dict := some dx, data := .fields #[.ref t1, .none, .none, .none, .bool false, .none] }
  dbig : h.objs.size ≤ dx
  dne : dx ≠ x
  ns : h'.Ns1 dx (fun y => if y = "value" then some v else none)
/-- a made Low -/
structure OwnMade (h h' : Heap) (e C d : Addr) (v : Value) : Prop where
  keep : ∀ b o, h.get? b = some o → h'.get? b = some o
  new : h.objs.size ≤ e
  obj : ∃ oe vs, h'.get? e = some oe ∧ oe.cls = .ref C ∧ oe.dict = some d ∧ oe.data = .fields vs ∧ vs[1]? = some .none
  dbig : h.objs.size ≤ d
  dne : d ≠ e
  ns : h'.Ns1 d (fun y => if y = "value" then some v else none)
section
variable {prog : Program} {w : World} {A : Around} {E : Value → Shared → Prop} {R : Result → Shared → Prop} {s : Shared} {K : Frag} {mg : Str → Option Value} {C fI : Addr} {cn qn : Str}
theorem low_init (T : LowTxt K mg cn qn C fI) {x t0 : Addr} {v : Value} (X : K.In s.heap) (hlim : s.heap.NoLimit) (hx : s.heap.get? x = some (excO C t0)) (hnx : K.lookup x = none) (hroom : A.depth < recursionLimit)
    (hq : ∀ h' tk dx, InitEnd s.heap h' x C dx t0 v → R (.ok (.ret .none)) { s with heap := h', toks := tk }) :
    codeAny (model prog w) A (.call (.ref fI) ⟨[.ref x, v], []⟩) R s := by
  obtain ⟨oc, od, doc, pm, an, cdv, ct, osl, p1, p2, q1, q2, q3, q4, ho, hcd⟩ := T.fn
  obtain ⟨nm, q, N, bs, bm, sn, sub, ab, col, dd, k0, k1, k2, k3, k5, hC, hbm⟩ := T.cls
  have hcl : clsIn K C = some { name := nm, bases := bs, mro := .ref C :: bm, ns := N, qualname := q, hasDict := true, slotNames := sn, subclasses := sub, abstract := ab, collection := col, hasDel := false } := by unfold clsIn; rw [hC] <;> rfl
  refine Att.call_fn (binds := [("self", .ref x), ("value", v)]) X hlim ho hcd hroom (BindsTo.of_eq (by first | rfl | with_unfolding_all rfl)) (by first | rfl | decide | with_unfolding_all rfl) (fun s₁ IC => ?_) rfl rfl rfl
  obtain ⟨h₁, tk₁, rfl⟩ := IC.toInCall.same
  have k : ∀ b o, s.heap.get? b = some o → h₁.get? b = some o := IC.toInCall.keep
  have hn := IC.toInCall.ns
  have hxL : s.heap.objs.size ≠ x := Nat.ne_of_gt (Heap.lt_size hx)
  have X₁ : K.In h₁ := X.keeps k
  have hx₁ := k _ _ hx
  -- self.by = by
  show wpAny _ _ (execs _ _) _ _ _
  refine wpAny_execs_cons (plainObj_wpAny_Assign_Attribute ?_)
  refine ldC (v := v) hn (by first | rfl | with_unfolding_all rfl | kernel_rfl) (ldC (v := .ref x) hn (by first | rfl | with_unfolding_all rfl | kernel_rfl) ?_)
  refine set_plain X₁ (ox := excO C t0) (od := none) ⟨hx₁, rfl, rfl, trivial⟩ T.sa ?_
  refine exc_osa X₁ hx₁ hcl (show refsVE (.ref C :: bm) = true from hbm) rfl T.noN (fun h₃ tk₃ dx k₃ dn dne hx₃ hn₃ => ?_)
  show wpAny _ _ (execs _ _) _ _ _
  have z : s.heap.objs.size < h₁.objs.size := hn.lt
  exact wpAny_execs_nil (hq h₃ tk₃ dx ⟨fun b o hb e => k₃ b o hb (k b o e), hx₃, Nat.le_of_lt (Nat.lt_of_lt_of_le z dn), dne, hn₃⟩)
theorem low_made (T : LowTxt K mg cn qn C fI) {v : Value} (X : K.In s.heap) (hlim : s.heap.NoLimit) (hroom : A.depth + 1 < recursionLimit)
    (hq : ∀ h' tk e d, OwnMade s.heap h' e C d v → R (.ok (.ret (.ref e))) { s with heap := h', toks := tk }) :
    codeAny (model prog w) A (.call (.ref C) ⟨[v], []⟩) R s := by
  obtain ⟨nm, q, N, bs, bm, sn, sub, ab, col, dd, k0, k1, k2, k3, k5, hC, hbm⟩ := T.cls
  obtain ⟨hp, g, dr, tk, os⟩ := s
  have k : ∀ b o, hp.get? b = some o → ((hp.push (kdv_tup [v])).push (excO C hp.objs.size)).get? b = some o := fun b o e => Heap.get?_push_of_some _ (Heap.get?_push_of_some _ e)
  have hget : ((hp.push (kdv_tup [v])).push (excO C hp.objs.size)).get? (hp.objs.size + 1) = some (excO C hp.objs.size) := by heap_get
  have hnx : K.lookup (hp.objs.size + 1) = none := by
    cases e : K.lookup (hp.objs.size + 1) with
    | none => rfl
    | some o =>
      have z : hp.get? (hp.objs.size + 1) = some o := X _ _ e
      exact absurd (Nat.lt_of_succ_lt (Heap.lt_size z)) (Nat.lt_irrefl _)
  refine call_own F.excBase_ValueError (fun X => refsVE_contains X bm hbm) (X _ _ hC) (looks_findIn X T.iC) (fun self => bind_fn X self T.tC) (one_size v) ?_
  refine low_init (s := ⟨(hp.push (kdv_tup [v])).push (excO C hp.objs.size), g, dr, tk, os⟩) T (X.keeps k) (hlim.keeps k) hget hnx ?_ fun h' tk' dx ⟨k', hx, dn, dne, hns⟩ => ?_
  · show A.depth + 1 < recursionLimit
    exact hroom
  · have old : ∀ b o, hp.get? b = some o → h'.get? b = some o := fun b o e => k' b o (Nat.ne_of_lt (Nat.lt_succ_of_lt (Heap.lt_size e))) (k b o e)
    have z : hp.objs.size + 1 + 1 ≤ dx := by
      first
        | (simpa only [Heap.size_push] using dn)
        | exact dn
        | (have q := dn; rw [Heap.size_push, Heap.size_push] at q; exact q)
    exact ⟨rfl, hq h' tk' (hp.objs.size + 1) dx ⟨old, Nat.le_succ _, ⟨_, _, hx, rfl, rfl, rfl, rfl⟩, Nat.le_trans (Nat.le_trans (Nat.le_succ _) (Nat.le_succ _)) z, dne, hns⟩⟩
end
end ExV
end PySem
namespace L2
open PySem PySem.Spec PyProof.Rows
theorem relO_low {v : V} {v' : Value} (r : RelV v v') (f : Str) : RelO (List.lookup f [(("value" : Str), v)]) (if f = "value" then some v' else none) := by
  by_cases hw : f = "value"
  · subst hw
    rw [if_pos rfl]
    have q : List.lookup ("value" : Str) [(("value" : Str), v)] = some v := by simp [List.lookup]
    rw [q]
    exact r
  · rw [if_neg hw]
    have qw : (f == ("value" : Str)) = false := by simpa using hw
    have q2 : List.lookup f [(("value" : Str), v)] = none := by simp [List.lookup, qw]
    rw [q2]
    trivial
section
variable {X : Cx} {C fI : Addr} {cn qn : Str}
/-- Low(e) -/
def tMkLow (C : Addr) (ta : TA) : St → Hp → XK → Prop := fun σ H Q => ta σ H fun vs H1 => ∃ v, vs = [v] ∧ ∀ d, H1 d = none → Q (.ref C) (some d) (upd H1 d (.xd [(("value" : Str), v)]))
theorem pmk_low {a : Expr} {ta : TA} {p pos : Pos} {k : Nat} (T : PySem.ExV.LowTxt X.K X.mg cn qn C fI) (hr : Room k X.A) (ha : PA X [a] ta) (hdb : (cn == ("__debug__" : Str)) = false := by decide) (hg : Gl X cn := by rfl)
    (he : starEach (a :: []) X.env = (false, eval a X.env) :: starEach [] X.env := by rfl) (hpl : (backTo pos (starEach [] X.env)).any (·.1) = false := by rfl) :
    PMk X (.Call (.Name cn p) [a] [] pos) (tMkLow C ta) := by
  intro pins s σ H Q I h
  refine wpAny_Call_Name_kw (ld_glob I hg T.gC ?_ hdb)
  refine PySem.W.callWith_K (h₀ := X.base) I.ok.mod.kin T.kC (thn (ha.run pos pins s σ H _ I h) fun us s1 hh => ?_) he hpl
  obtain ⟨vs, H1, I1, r1, v, ev, q1⟩ := hh
  subst ev
  refine ⟨I1.kIn, ?_⟩
  cases r1 with
  | cons rv rn =>
    rename_i v' us'
    cases rn
    show wpAny _ _ (call (.ref C) [v']) _ _ _
    have hlim := I1.nolimit
    obtain ⟨hp, g, dr, tk, os⟩ := s1
    refine wpAny_call (PySem.ExV.low_made T I1.kIn hlim (by have := hr.dp; omega) fun h' tk' e d M => ?_)
    show MkP X pins σ Q (.ref e) ⟨h', g, dr, tk', os⟩
    obtain ⟨oe, fv, hoe, hc, hd, hdat, h1⟩ := M.obj
    have hns := M.ns
    obtain ⟨G', g1, g2⟩ := restrict h' fun b => decide (b ≠ e)
    have gk : ∀ b, b ≠ e → G'.get? b = h'.get? b := fun b hb => g1 b (decide_eq_true hb)
    have ge : G'.get? e = none := g2 e (by simp)
    have old : ∀ b o, hp.get? b = some o → G'.get? b = some o := fun b o q => (gk b (Nat.ne_of_lt (Nat.lt_of_lt_of_le (Heap.lt_size q) M.new))).trans (M.keep b o q)
    have ob : ObjOk X.prog X.w (upd H1 d (.xd [(("value" : Str), v)])) G' d (.xd [(("value" : Str), v)]) :=
      ⟨_, hns.at (fun o q => (gk d M.dne).trans q), fun f => relO_low rv f⟩
    have J : Inv X pins σ (upd H1 d (.xd [(("value" : Str), v)])) ⟨G', g, dr, tk', os⟩ := I1.laid (t' := tk') old M.dbig ob
    refine ⟨e, oe, fv, ⟨G', g, dr, tk', os⟩, _, .ref C, some d, rfl, J, fun b o q => ?_, ge, hoe, ⟨hc, hd⟩, hdat, h1, ?_, rfl, I1.bare, raises_own T.exC T.tyC, q1 d (I1.hok.fresh M.dbig)⟩
    · by_cases hb : b = e
      · have q' : G'.get? b = some o := q
        rw [hb, ge] at q'; cases q'
      · exact (gk b hb).symm.trans q
    · rw [upd_ne (Ne.symm M.dne)]
      exact I1.hok.fresh M.new
/-- raise Low(e) -/
def tRaiseLow (C : Addr) (W : WX) (ta : TA) : TS := fun _ σ H => tMkLow C ta σ H fun cls d H' => W cls d σ H'
theorem ps_raiseLow {a : Expr} {ta : TA} {W : WX} {p pos pos2 : Pos} {k : Nat} (hc : X.calm = true) (T : PySem.ExV.LowTxt X.K X.mg cn qn C fI) (hr : Room k X.A) (tk : Takes X W) (ha : PA X [a] ta) (hdb : (cn == ("__debug__" : Str)) = false := by decide) (hg : Gl X cn := by rfl)
    (he : starEach (a :: []) X.env = (false, eval a X.env) :: starEach [] X.env := by rfl) (hpl : (backTo pos (starEach [] X.env)).any (·.1) = false := by rfl) :
    PS X (.Raise (some (.Call (.Name cn p) [a] [] pos)) none pos2) (tRaiseLow C W ta) := ps_raise hc tk (pmk_low T hr ha hdb hg he hpl)
/-- low.by, low the exception that the suite holds (at a; its class cls, its dict d) -/
def tByLow (C : Addr) (a : Addr) (cls : Value) (d : Option Addr) (te : TE) : TE := fun σ H Q => te σ H fun x H1 => x = .ref a ∧ cls = .ref C ∧ ∃ (dd : Addr) (v : V), d = some dd ∧ H1 dd = some (.xd [(("value" : Str), v)]) ∧ Q v H1
theorem pe_byLow {a : Addr} {oe : Obj} {cls : Value} {d : Option Addr} {pn : List (Addr × Obj)} {e : Expr} {te : TE} {pos : Pos} (T : PySem.ExV.LowTxt X.K X.mg cn qn C fI) (hz : Zc cls d oe) (hf : ∃ vs, oe.data = .fields vs) (he : PE (X.suite a ((a, oe) :: pn)) e te)
    (hb : attributeBase e "value" X.env (eval e X.env) = eval e X.env := by rfl) :
    PE (X.suite a ((a, oe) :: pn)) (.Attribute e "value" pos) (tByLow C a cls d te) := by
  refine ⟨fun pins s σ H Q I h => ?_⟩
  refine attr_of hb (thn (he.run pins s σ H _ I h) fun u s1 hh => ?_)
  obtain ⟨x, H1, I1, rx, ex, ec, dd, v, ed, ea, q⟩ := hh
  subst ex
  obtain rfl : u = Value.ref a := rx
  subst ec
  subst ed
  obtain ⟨ha, _⟩ := I1.pin (a, oe) (List.mem_append_left _ List.mem_cons_self)
  obtain ⟨vs, hd⟩ := hf
  have hx : ObjOk X.prog X.w H1 s1.heap dd (.xd [(("value" : Str), v)]) := I1.hok dd _ ea
  obtain ⟨mA, hns, hr⟩ := hx
  obtain ⟨od, ho, hl⟩ := lookIn_ns hns
  have l : List.lookup ("value" : Str) [(("value" : Str), v)] = some v := by simp [List.lookup]
  obtain ⟨u, hu, ru⟩ := RelO.some_of (v := v) (o := mA "value") (by rw [← l]; exact hr "value")
  have J : PySem.W.InstAt s1.heap a oe C (some od) := ⟨ha, hz.1, by unfold PySem.W.notCls; rw [hd] <;> rfl, by rw [hz.2]; exact ho⟩
  exact HandSPX.exc_get I1.kIn J T.ga T.gg T.exC (PySem.W.findObj_own T.hdC T.noN rfl (by rw [hl, hu])) (handed_of ru) ⟨v, H1, I1.tok _, ru, q⟩
end
end L2
set_option Elab.async false
set_option linter.all false
set_option maxRecDepth 100000
set_option maxHeartbeats 2000000
/-! try with several clauses «except C as n» of one name; what no clause takes does not come -/
namespace FR
open PySem PySem.Spec PyProof.Rows L2 TL
/-- behind a suite the clause's name is gone -/
def gone (i : Nat) (D : Ends) : Ends := { nx := fun σ H => D.nx (σ.set i none) H, rt := D.rt, bk := fun σ H => D.bk (σ.set i none) H, ct := fun σ H => D.ct (σ.set i none) H }
def wAsM (K : PySem.W.Frag) (i : Nat) (D : Ends) : List (Value × (Addr → Value → Option Addr → TS)) → WX
  | [] => fun _ _ _ _ => False
  | (c, ts) :: r => fun cls d σ H => ∃ b, PySem.W.exmOne K cls c = some b ∧ (b = true → ∀ a, H a = none → ts a cls d (gone i D) (σ.set i (some (.ref a))) H) ∧ (b = false → wAsM K i D r cls d σ H)
inductive ClausesOk (X : Cx) (n : Str) : List ExceptHandler → List (Value × (Addr → Value → Option Addr → TS)) → Prop
  | nil {hds : List ExceptHandler} : ClausesOk X n hds []
  | cons {x : Str} {c : Value} {ts : Addr → Value → Option Addr → TS} {st : Stmt} {sts : List Stmt} {p1 p2 : Pos} {hds : List ExceptHandler} {l : List (Value × (Addr → Value → Option Addr → TS))} (hc : Names X x c)
      (hsu : ∀ (a : Addr) (oe : Obj) (cls : Value) (d : Option Addr) (pn : List (Addr × Obj)), Zc cls d oe → (∃ vs, oe.data = .fields vs) → PSs (X.suite a ((a, oe) :: pn)) (st :: sts) (ts a cls d)) (r : ClausesOk X n hds l) :
      ClausesOk X n (.ExceptHandler (some (.Name x p1)) (some n) (st :: sts) p2 :: hds) ((c, ts) :: l)
section
variable {X : Cx} {n : Str} {i : Nat} {body : List Stmt} {hd0 : ExceptHandler} {hds : List ExceptHandler} {l : List (Value × (Addr → Value → Option Addr → TS))} {pos : Pos} {tb : WX → TS}
theorem ps_try_asM (hs : X.stack = X.env :: X.outer) (hf : X.env.frame = some X.env.locals) (hN : X.N.Nodup) (hi : X.N[i]? = some n) (hln : X.env.kindOf n = some .local)
    (hb : ∀ (W : WX) (pn : List (Addr × Obj)) (xe : Value → Shared → Prop), Takes (X.tr pn xe) W → PassesOwn (model X.prog X.w) X.A X.env xe → PSs (X.tr pn xe) body (tb W))
    (hh : ClausesOk X n (hd0 :: hds) l) : PS X (.Try body (hd0 :: hds) [] [] pos) (fun D σ H => tb (wAsM X.K i D l) D σ H) := by
  refine ⟨fun pins s σ H D I h => wpAny_Try_except ?_⟩
  have okX := I.ok
  have fr : X.A.frames = some (X.env :: X.outer) := by rw [okX.frames, hs]
  let land : Value → Shared → Prop := fun e s1 => wpAny (model X.prog X.w) X.A (noteFrame e X.env) (fun _ s2 => wpAny (model X.prog X.w) X.A (setFlight e none) (fun _ s3 => wpAny (model X.prog X.w) X.A (handleBy e X.env (hd0 :: hds)) (SP X pins D) X.xe s3) X.xe s2) X.xe s1
  have caught : ∀ (u : Value) (s1 : Shared), XE (X.tr (X.pn ++ pins) land) (wAsM X.K i D l) u s1 → land u s1 := by
    intro u s1 xx
    obtain ⟨a, B, sI, _, σ1, H1, cls, d, rfl, J0, nb, up, sky, na, os, ag, w⟩ := xx
    have J : Inv X pins σ1 H1 sI := J0.ofTry okX
    show wpAny (model X.prog X.w) X.A (noteFrame (.ref a) X.env) _ _ _
    refine Sky.land Zc.steady fr hf (by rw [← hs]; exact sky) fun g1 fl1 up1 => ?_
    have K1 : Inv X pins σ1 H1 { s1 with heap := g1 } := J.landed nb fl1.1 (up.trans up1) os ag
    obtain ⟨ob, fv, e1, z1, d1⟩ := fl1.there
    have out : a ∉ frs (X.env :: X.outer) := fun m => by
      obtain ⟨_, o2, e2, q⟩ := fl1.2.2.1.mem m
      cases e1.symm.trans e2
      exact q _ d1
    have n1 : a ≠ X.env.locals := fun z => out (List.mem_filterMap.mpr ⟨_, List.mem_cons_self, by rw [hf, z]⟩)
    have n2 : a ∉ X.fs := fun m => by
      obtain ⟨e2, m2, q⟩ := List.mem_filterMap.mp m
      exact out (List.mem_filterMap.mpr ⟨e2, List.mem_cons_of_mem _ m2, q⟩)
    have S1 := K1.suite e1 d1 na n1 n2
    have each : ∀ {cs : List ExceptHandler} {ws : List (Value × (Addr → Value → Option Addr → TS))}, ClausesOk X n cs ws → wAsM X.K i D ws cls d σ1 H1 → wpAny (model X.prog X.w) X.A (handleBy (.ref a) X.env cs) (SP X pins D) X.xe { s1 with heap := g1 } := by
      intro cs ws ck
      induction ck with
      | nil => exact fun z => z.elim
      | @cons x c ts st sts p1 p2 more wmore hc hsu _ ih =>
        rintro ⟨b, hm, yes, no⟩
        refine wpAny_handleBy_cons (codeAny_handlers_test ?_) (fun q => by cases q)
        have ty : PySem.W.Looks (model X.prog X.w) g1 (typeOf (.ref a)) cls := fun _ _ _ _ k q => wpAny_typeOf_ref (k _ _ e1) (by rw [z1.1]; exact q)
        have one := PySem.W.exm_one (M := model X.prog X.w) K1.kIn ty hm
        have named : ∀ {Q E : Value → Shared → Prop}, Q c { s1 with heap := g1 } → wpAny (model X.prog X.w) (X.A.mark (some (.ref a))) (eval (.Name x p1) X.env) Q E { s1 with heap := g1 } := by
          intro Q E q
          obtain ⟨y1, y2, y3 | ⟨y3, y4, y5⟩⟩ := hc
          · exact ld_glob (X := X.suite a ((a, ob) :: (X.pn ++ pins))) S1 y1 y3 q y2
          · exact ld_blt (X := X.suite a ((a, ob) :: (X.pn ++ pins))) S1 y1 y3 y4 q y5 y2
        refine named (one.here ?_)
        cases b with
        | false => exact ih (no rfl)
        | true =>
          refine codeAny_handlers_suite_as (HandSPX.lands_againZ fl1 fun g2 fl2 up2 => ?_)
          obtain ⟨oc, fw, e2, z2, d2⟩ := fl2.there
          have K2 : Inv X pins σ1 H1 { s1 with heap := g2 } := J.landed nb fl2.1 ((up.trans up1).trans up2) os ag
          have S2 := K2.suite e2 d2 na n1 n2
          refine store_ok (X := X.suite a ((a, oc) :: (X.pn ++ pins))) (v := .ref a) S2 hN hi (.inl hln) rfl (fun s5 S5 => ?_) (.inr hln)
          refine wpAny_mono ((hsu a oc cls d (X.pn ++ pins) z2 ⟨_, d2⟩).run [] s5 _ H1 _ S5 (yes rfl a na)) (fun f s6 hz => ?_) (fun _ _ z => z.elim)
          have ends : ∀ {σ6 : L2.St} {H6 : Hp} {Q : Shared → Prop}, Inv (X.suite a ((a, oc) :: (X.pn ++ pins))) [] σ6 H6 s6 → (∀ s7, Inv X pins (σ6.set i none) H6 s7 → Q s7) → wpAny (model X.prog X.w) X.A (do bindName X.env n .none; unbindBehindTheSuite X.env n p2) (fun _ s7 => Q s7) X.xe s6 :=
            fun S6 hq => gone_ok (S6.unsuite okX) hN hi hln hq
          match f, hz with
          | .next, ⟨_, _, S6, q6⟩ => exact ends S6 fun _ J7 => ⟨_, _, J7, q6⟩
          | .brk, ⟨_, _, S6, q6⟩ => exact ends S6 fun _ J7 => ⟨_, _, J7, q6⟩
          | .cont, ⟨_, _, S6, q6⟩ => exact ends S6 fun _ J7 => ⟨_, _, J7, q6⟩
          | .ret _, ⟨_, _, _, S6, r6, q6⟩ => exact ends S6 fun _ J7 => ⟨_, _, _, J7, r6, q6⟩
    exact each hh w
  refine wpAny_mono ((hb _ _ land caught PassesOwn.looking).run [] s σ H D (I.toTry _) h) (fun f s1 hz => ?_) (fun _ _ z => z)
  match f, hz with
  | .next, ⟨_, _, J, q⟩ => exact wpAny_execs_nil ⟨_, _, J.ofTry okX, q⟩
  | .brk, ⟨_, _, J, q⟩ => exact ⟨_, _, J.ofTry okX, q⟩
  | .cont, ⟨_, _, J, q⟩ => exact ⟨_, _, J.ofTry okX, q⟩
  | .ret _, ⟨_, _, _, J, r, q⟩ => exact ⟨_, _, _, J.ofTry okX, r, q⟩
end
end FR
set_option Elab.async false
set_option linter.all false
set_option maxRecDepth 100000
/-! isinstance of the exception that a suite holds, one with fields -/
namespace FR
open PySem PySem.Spec PyProof.Rows L2 TL
/-- the exception that the suite holds is one of the class D, with its own dict -/
def HeldE (K : PySem.W.Frag) (cls : Value) (d : Option Addr) (H : Hp) (D : Addr) : Prop := cls = .ref D ∧ ExcC K D ∧ ∃ (dd : Addr) (fs : List (Str × V)), d = some dd ∧ H dd = some (.xd fs)
section
variable {X : Cx} {a : Addr} {oe : Obj} {pn : List (Addr × Obj)} {cls : Value} {d : Option Addr} {pins : List (Addr × Obj)} {σ : L2.St} {H : Hp} {s : Shared} {D : Addr}
theorem kit_held (hz : Zc cls d oe) (hf : ∃ vs, oe.data = .fields vs) (I : Inv (X.suite a ((a, oe) :: pn)) pins σ H s) (h : HeldE X.K cls d H D) : ∃ od, PySem.W.KitX X.K (.ref a) (.ref D) (fun g => PySem.W.InstAt g a oe D (some od)) ∧ PySem.W.InstAt s.heap a oe D (some od) := by
  obtain ⟨rfl, C, dd, fs, rfl, hx⟩ := h
  obtain ⟨hget, _⟩ := I.pin (a, oe) (List.mem_append_left _ List.mem_cons_self)
  obtain ⟨vs, hv⟩ := hf
  obtain ⟨mA, hns, _⟩ := (show ObjOk X.prog X.w H s.heap dd (.xd fs) from I.hok dd _ hx)
  obtain ⟨od, ho, _⟩ := lookIn_ns hns
  obtain ⟨cd, hc, _⟩ := PySem.W.any_some C.hd
  refine ⟨od, PySem.W.kitx_exc (by rw [hc]; rfl) C.hg C.hk C.hs C.ha C.hn C.ht C.hm, hget, hz.1, ?_, ?_⟩
  · unfold PySem.W.notCls
    rw [hv] <;> rfl
  · rw [hz.2]
    exact ho
def rIsH (K : PySem.W.Frag) (a : Addr) (cls : Value) (d : Option Addr) : List V → Hp → VK → Prop := fun xs H Q => ∃ (D : Addr) (c : V) (cv : Value) (b : Bool), HeldE K cls d H D ∧ xs = [.ref a, c] ∧ ClsV c cv ∧ PySem.W.kitOne K (.ref D) cv = some b ∧ Q (.bl b) H
theorem call_isH (hz : Zc cls d oe) (hf : ∃ vs, oe.data = .fields vs) : CallR (X.suite a ((a, oe) :: pn)) (.builtin "isinstance") (rIsH X.K a cls d) := by
  intro pins s σ H xs us Q I r h
  obtain ⟨D, c, cv, b, hh, rfl, hc, e, q⟩ := h
  cases r with
  | cons rx rr =>
    cases rr with
    | cons rt rr =>
      cases rr
      cases (show _ = Value.ref a from rx)
      cases hc.eq rt
      obtain ⟨od, Z, J⟩ := kit_held hz hf I hh
      exact PySem.W.kia_one Z I.kIn J e (fun z => nomatch z) fun tk => ⟨.bl b, H, I.tok tk, rfl, q⟩
def rIsHT (K : PySem.W.Frag) (a : Addr) (cls : Value) (d : Option Addr) : List V → Hp → VK → Prop := fun xs H Q => ∃ (D tp : Addr) (cs : List V) (cvs : List Value) (b : Bool), HeldE K cls d H D ∧ xs = [.ref a, .ref tp] ∧ H tp = some (.tup cs) ∧ Paired ClsV cs cvs ∧ PySem.W.kitAny K (.ref D) cvs = some b ∧ Q (.bl b) H
theorem call_isHT (hz : Zc cls d oe) (hf : ∃ vs, oe.data = .fields vs) : CallR (X.suite a ((a, oe) :: pn)) (.builtin "isinstance") (rIsHT X.K a cls d) := by
  intro pins s σ H xs us Q I r h
  obtain ⟨D, tp, cs, cvs, b, hh, rfl, ht, hc, e, q⟩ := h
  cases r with
  | cons rx rr =>
    cases rr with
    | cons rt rr =>
      cases rr
      cases (show _ = Value.ref a from rx)
      cases (show _ = Value.ref tp from rt)
      obtain ⟨od, Z, J⟩ := kit_held hz hf I hh
      obtain ⟨_, its, rv, ⟨oc, od2, dt, sl⟩, h1, h2, n, h3⟩ := (show ObjOk X.prog X.w H s.heap tp (.tup cs) from I.hok tp _ ht)
      have e3 := ClsV.all hc rv
      subst e3
      simp only at h2 h3
      subst h2 h3
      exact PySem.W.kia_tup Z I.kIn J h1 e (fun z => nomatch z) fun tk => ⟨.bl b, H, I.tok tk, rfl, q⟩
end
end FR
set_option Elab.async false
set_option linter.all false
set_option maxRecDepth 100000
/-! a text beside a dict; «x not in texts» for anything -/
namespace FR
open PySem PySem.Spec PyProof.Rows L2 TL PySem.SeqAt
theorem str_eq_dict (b : Str) (u : Tok) (l : Addr) (c : Value) (es : Array DictEntry) (n : Nat) (dd : Option Addr) (sl : Array (Option Value)) :
    Meets (Builtin.«str.__eq__» ⟨[.str b u, .ref l], []⟩) (fun _ R s => s.heap.get? l = some { cls := c, dict := dd, data := .dict es n, slots := sl } ∧ R (.ok (.ret .notImplemented)) s) :=
  .of_wp fun prog w A R s h => by
    obtain ⟨hp, g, d, tk, os⟩ := s
    obtain ⟨hl, h⟩ := h
    wp_walk using wpAny_loadPart' hl, wpAny_load hl
    exact ⟨_, rfl, h⟩
theorem dict_eq_str (b : Str) (u : Tok) (l : Addr) (c : Value) (es : Array DictEntry) (n : Nat) (dd : Option Addr) (sl : Array (Option Value)) :
    Meets (Builtin.«dict.__eq__» ⟨[.ref l, .str b u], []⟩) (fun _ R s => s.heap.get? l = some { cls := c, dict := dd, data := .dict es n, slots := sl } ∧ R (.ok (.ret .notImplemented)) s) :=
  .of_wp fun prog w A R s h => by
    obtain ⟨hp, g, d, tk, os⟩ := s
    obtain ⟨hl, h⟩ := h
    have f1 := F.sub_str_dict
    wp_walk using wpAny_loadPart' hl, wpAny_load hl
    exact ⟨_, rfl, h⟩
theorem eqAt_str_dict {A : Around} {s : Shared} {l : Addr} {o : Obj} {es : Array DictEntry} {n : Nat} (b : Str) (u : Tok) (ho : s.heap.get? l = some o) (hx : o.cls = .type "dict") (hd : o.data = .dict es n) (hu : A.units < cLine) : EqAt A s (.str b u) (.ref l) false := fun prog w E Q h => by
  unfold eqBool
  refine wpAny_holding (wpAny_ite_split (fun hab => absurd (eq_of_beq hab) nofun) (fun _ => wpAny_bind ?_))
  obtain ⟨cls, dd, data, sl⟩ := o
  simp only at hx hd
  subst hx hd
  exact rc_eq_decline_or (k := false) (typeIs_str s b u) ⟨_, ho, rfl⟩ (by decide) F.sub_dict_str F.slot_str_eq F.slot_dict_eq_refl
    (fun _ hq => call_meets F.slot_str_eq (typeIs_str s b u) F.entry_str_eq (F.args_str_eq_2 _ _) (str_eq_dict b u l (.type "dict") es n dd sl) ⟨ho, hq⟩)
    (fun _ hq => call_meets F.slot_dict_eq_refl ⟨_, ho, rfl⟩ F.entry_dict_eq (F.args_dict_eq_2 _ _) (dict_eq_str b u l _ es n dd sl) ⟨ho, hq⟩)
    (fun _ hq => wpAny_of_eq (rfl : isSame (.str b u) (.ref l) = pure false) hq) (.inr hu) (wpAny_truthy_bool h)
section
variable {X : Cx}
theorem vals_strs : ∀ {ws : List Str} {us : List Value}, Vals (ws.map V.str) us → ∀ u ∈ us, ∃ x t, u = Value.str x t
  | [], _, h, u, hu => by
    cases h
    simp at hu
  | w :: r, _, .cons a b, u, hu => by
    rcases List.mem_cons.mp hu with rfl | hu
    · obtain ⟨t, rfl⟩ := a
      exact ⟨_, t, rfl⟩
    · exact vals_strs b u hu
/-- what «v not in the texts ws» gives -/
def NInW (K : PySem.W.Frag) (H : Hp) (v : V) (ws : List Str) (r : Bool) : Prop := (flatV v = true ∧ (!inV v (ws.map V.str)) = r) ∨ (∃ d, Dp K H v d ∧ SeqAt.shaped d = true ∧ SeqAt.shaped (.list (ws.map .str)) = true ∧ (!(ws.map PyData.str).any fun z => PyData.eqv z d) = r) ∨
  ∃ (a : Addr) (kvs : List (Key × V)), v = .ref a ∧ H a = some (.dK kvs) ∧ true = r
def rNotInW (K : PySem.W.Frag) : R2 := fun x y H Q => ∃ (p : Addr) (ws : List Str) (r : Bool), y = .ref p ∧ SqL K H p (ws.map V.str) ∧ NInW K H x ws r ∧ Q (.bl r) H
theorem op_notInW (hu : X.A.units + 65 < cLine) : OpR X (compareOp .NotIn) (rNotInW X.K) := by
  intro pins s σ H x y v u Q I rx ry h
  obtain ⟨p, ws, r, rfl, hp, ⟨hf, rfl⟩ | ⟨d, hd, s1, s2, rfl⟩ | ⟨a, kvs, rfl, ha, rfl⟩, q⟩ := h
  · exact op_notIn_seq pins s σ H x _ v u Q I rx ry ⟨p, _, rfl, .inl hp, hf, flat_strs ws, q⟩
  · exact op_notInD hu pins s σ H x _ v u Q I rx ry ⟨d, _, hd, .lst hp (dpAll_strs ws), s1, s2, q⟩
  · cases (show v = Value.ref a from rx)
    cases (show u = Value.ref p from ry)
    obtain ⟨_, _, vs, kv, o, es, ep, e, hx, hd, _, _, _⟩ := (show ObjOk X.prog X.w H s.heap a (.dK _) from I.hok _ _ ha)
    obtain ⟨its, rv, hl, _⟩ := I.list hp
    refine notIn_listAt (fun _ => false) hl.isList (fun z hz => ?_) ⟨.bl true, H, I, ?_, q⟩
    · obtain ⟨x, t, rfl⟩ := vals_strs rv z (by simpa using hz)
      exact eqAt_str_dict x t e hx.1 hd (by show X.A.units + 1 < cLine; omega)
    · show Value.bool _ = Value.bool true
      simp
theorem op_notInWK {X : Cx} {K : PySem.W.Frag} (h : X.K = K) (hu : X.A.units + 65 < cLine) : OpR X (compareOp .NotIn) (rNotInW K) := h ▸ op_notInW hu
end
end FR
set_option Elab.async false
set_option linter.all false
set_option maxRecDepth 100000
/-! raising defs with a star parameter, called -/
namespace FR
open PySem PySem.Spec PyProof.Rows L2 TL
theorem okStarX {P : Program} {w : World} {K : PySem.W.Frag} {mg : Str → Option Value} {base : Heap} {x qual pv : Str} {st : Stmt} {f : Addr} {fd : FuncData} {N ps : List Str} {k : Nat} {sp : Sp} (F : L2.Fun K x qual st f fd) (S : FnScope N (ps ++ [pv]) (defScope st))
    (hb : ∀ (kV doc pm : Value) (an : Option Addr) (cdv ct : Value) (us rest : List Value), us.length = ps.length → bindArgs (PySem.W.fnOf x qual (defArgs st) (defBody st) (defScope st) .none kV doc pm an cdv ct) ⟨us ++ rest, []⟩ = (newTuple rest >>= fun t => pure (ps.zip us ++ [(pv, t)])))
    (hbody : ∀ (cdv : Value) (A : Around) (outer : List Env) (s : Shared) (H : Hp) (vs : List V) (Q : VK) (E : XK), Room k (A.deeper (envOfC qual (defScope st) s.heap.objs.size f cdv)) → sp vs H Q E →
      ∃ t, PSs (cxOf (L2.CX P w) P w K mg base N qual (defScope st) f cdv A outer s H E) (defBody st) t ∧ t { nx := fun _ H' => Q .non H', rt := Q } (start N vs) H) :
    FnR P w K mg base (L2.CX P w) (k + 1) f (fun vs H Q E => ∃ ws rest, vs = ws ++ rest ∧ ws.length = ps.length ∧ rest.length ≤ sizeLine ∧ ∀ p, H p = Option.none → sp (ws ++ [V.ref p]) (upd H p (.tup rest)) Q E) := by
  obtain ⟨oc, od, kV, doc, pm, an, cdv, ct, osl, rfl, lk, hcd⟩ := F.ex
  exact StX.fn_star lk hcd S StX.cxUp (hb kV doc pm an cdv ct) fun A outer s H vs Q E hr hsp => hbody cdv A outer s H vs Q E hr hsp
section
variable {X : Cx} {CX : CXT} {k : Nat} {f : Addr} {sp : Sp} {E : L2.St → XK} {x : Str} {e : Expr} {es : List Expr} {t : TA} {p pos : Pos}
theorem pe_callRX (F : FnR X.prog X.w X.K X.mg X.base CX k f sp) (hr : Room k X.A) (hk : PySem.W.keepIn X.K (.ref f) = true) (hg : Gl X x) (hm : X.mg x = some (.ref f)) (hx : ∀ σ, PassesAt CX X σ (E σ)) (ha : PA X (e :: es) t) (hd : (x == ("__debug__" : Str)) = false := by decide)
    (he : starEach (e :: es) X.env = (false, eval e X.env) :: starEach es X.env := by rfl) (hpl : (backTo pos (starEach es X.env)).any (·.1) = false := by rfl) :
    PE X (.Call (.Name x p) (e :: es) [] pos) (fun σ H Q => t σ H fun vs H1 => sp vs H1 Q (E σ)) := ⟨fun pins s σ H Q I h => by
  refine wpAny_Call_Name_kw (ld_glob I hg hm (PySem.W.callWith_K (h₀ := X.base) I.ok.mod.kin hk (thn (ha.run pos pins s σ H _ I h) fun us s1 hz => ?_) he hpl) hd)
  obtain ⟨vs, H1, I1, r, q⟩ := hz
  refine ⟨I1.kIn, wpAny_call (codeAny_mono (F X.A X.stack s1 H1 us vs Q (E σ) hr I1.env0 r q) fun rr s' hq => ?_)⟩
  match rr, hq with
  | .error ee, hq => exact hx σ pins H1 s1 ee s' I1 hq
  | .ok (.ret u), hq => exact I1.after hq
  | .ok .next, hq => exact hq.elim
  | .ok .brk, hq => exact hq.elim
  | .ok .cont, hq => exact hq.elim⟩
end
end FR
set_option Elab.async false
set_option linter.all false
set_option maxRecDepth 100000
/-! how long a shown list is; facts that hang on some addresses alone -/
namespace FR
open PySem PySem.Spec PyProof.Rows L2 TL
theorem len_sep : (Str.ofString ", ").length = 2 := by decide +kernel
theorem len_open : (Str.ofString "[").length = 1 := by decide +kernel
theorem len_close : (Str.ofString "]").length = 1 := by decide +kernel
theorem len_none : (Str.ofString "").length = 0 := by decide +kernel
theorem shown3 (a b c : PyData) : (PyData.list [a, b, c]).shown.length = a.shown.length + b.shown.length + c.shown.length + 6 := by
  show (listText [a.shown, b.shown, c.shown]).length = _
  unfold listText
  rw [len_app, len_close]
  show ((((((Str.ofString "[" ++ Str.ofString "") ++ a.shown) ++ Str.ofString ", ") ++ b.shown) ++ Str.ofString ", ") ++ c.shown).length + 1 = _
  rw [len_app, len_app, len_app, len_app, len_app, len_app, len_open, len_none, len_sep]
  omega
theorem shown2 (a b : PyData) : (PyData.list [a, b]).shown.length = a.shown.length + b.shown.length + 4 := by
  show (listText [a.shown, b.shown]).length = _
  unfold listText
  rw [len_app, len_close]
  show ((((Str.ofString "[" ++ Str.ofString "") ++ a.shown) ++ Str.ofString ", ") ++ b.shown).length + 1 = _
  rw [len_app, len_app, len_app, len_app, len_open, len_none, len_sep]
  omega
theorem Keep.trans0 {H H1 : Hp} {D : Addr} {o : HO} (k : Keep [] H H1) (hD : H D = none) : Keep [] H (upd H1 D o) := fun b u e hb => by
  rw [upd_ne (ne_of_none e hD)]
  exact k b u e hb
def Held (S : List Addr) (H : Hp) (F : Hp → Prop) : Prop := (∀ a ∈ S, H a ≠ none) ∧ ∀ H', (∀ a ∈ S, H' a = H a) → F H'
section
variable {S T M : List Addr} {H H' : Hp} {F G : Hp → Prop}
theorem Held.at (h : Held S H F) : F H := h.2 H fun _ _ => rfl
theorem Held.mono (h : Held S H F) (k : Keep M H H') (d : ∀ a ∈ S, a ∉ M) : Held S H' F := by
  have e : ∀ a ∈ S, H' a = H a := fun a ha => by
    cases e : H a with
    | none => exact absurd e (h.1 a ha)
    | some o => exact k a o e (d a ha)
  exact ⟨fun a ha => by rw [e a ha]; exact h.1 a ha, fun H2 e2 => h.2 H2 fun a ha => (e2 a ha).trans (e a ha)⟩
theorem Held.mono0 (h : Held S H F) (k : Keep [] H H') : Held S H' F := h.mono k (by simp)
theorem Held.and (h : Held S H F) (g : Held T H G) : Held (S ++ T) H (fun H => F H ∧ G H) :=
  ⟨fun a ha => (List.mem_append.mp ha).elim (h.1 a) (g.1 a), fun H2 e => ⟨h.2 H2 fun a ha => e a (List.mem_append_left _ ha), g.2 H2 fun a ha => e a (List.mem_append_right _ ha)⟩⟩
theorem Held.imp (h : Held S H F) (i : ∀ H, F H → G H) : Held S H G := ⟨h.1, fun H2 e => i _ (h.2 H2 e)⟩
theorem Held.none (h : ∀ H, F H) : Held [] H F := ⟨by simp, fun H2 _ => h H2⟩
theorem Held.one {a : Addr} {o : HO} (h : H a = some o) (i : ∀ H2 : Hp, H2 a = some o → F H2) : Held [a] H F := ⟨fun x hx => by rw [List.mem_singleton.mp hx, h]; simp, fun H2 e => i H2 ((e a (by simp)).trans h)⟩
theorem Held.fresh (h : Held S H F) {p : Addr} (np : H p = Option.none) : p ∉ S := fun hp => h.1 p hp np
end
theorem Dq.mono {H H' : Hp} (k : Keep [] H H') {v : V} {d : PyData} (h : Dq H v d) : Dq H' v d := by
  refine Dq.rec (motive_1 := fun v d _ => Dq H' v d) (motive_2 := fun vs ds _ => DqAll H' vs ds) (motive_3 := fun vs ds _ => DqKv H' vs ds) .non .bl .int .str ?_ ?_ ?_ .nil (fun _ _ a b => .cons a b) .nil (fun _ _ a b => .cons a b) h
  · intro a xs ds hx hb _ ih
    exact .lst (k _ _ hx (by simp)) hb ih
  · intro a xs ds hx _ ih
    exact .tup (k _ _ hx (by simp)) ih
  · intro a kvs ds hx _ ih
    exact .dct (k _ _ hx (by simp)) ih
theorem u65 {k : Nat} {A : Around} (r : Room k A) : A.units + 65 < cLine := by have := r.un; omega
theorem okG0 {P : Program} {w : World} {K : PySem.W.Frag} {mg : Str → Option Value} {base : Heap} {k : Nat} {f : Addr} {sp : Sp} {x qual : Str} {st : Stmt} {fd : FuncData} {N ps : List Str} (F : L2.Fun K x qual st f fd) (S : FnScope N ps (defScope st)) (B : Binds K fd ps []) (hlen : ∀ vs H Q E, sp vs H Q E → vs.length = ps.length)
    (hbody : ∀ (cdv : Value) (A : Around) (outer : List Env) (s : Shared) (H : Hp) (vs : List V) (Q : VK) (E : XK), A.guards = some [] → Room k (A.deeper (envOfC qual (defScope st) s.heap.objs.size f cdv)) → sp vs H Q E →
      ∃ t, PSs (cxOf CX0 P w K mg base N qual (defScope st) f cdv A outer s H E).nox (defBody st) t ∧ t { nx := fun _ H' => Q .non H', rt := Q } (start N vs) H) : FnG P w K mg base CX0 (k + 1) f sp :=
  okG F S B hlen fun cdv A outer s H vs Q E hg hr hs => (hbody cdv A outer s H vs Q E hg hr hs).elim fun t h => ⟨t, h.1.nox, h.2⟩
end FR
set_option Elab.async false
set_option linter.all false
set_option maxRecDepth 100000
/-! what `except` and isinstance say of two classes of the text -/
namespace FR
open PySem PySem.Spec PyProof.Rows L2
/-- an error of the class at S is what «except T» names, or not -/
theorem exm_of {K : PySem.W.Frag} {t S : Addr} {b : Bool} (h1 : PySem.W.subIn K (.ref S) (.type "BaseException") = some true) (h2 : PySem.W.isClsIn K S = true) (h3 : PySem.W.typeIn K (.ref S) = some (.type "type")) (h4 : PySem.W.subIn K (.ref t) (.ref S) = some b) :
    PySem.W.exmOne K (.ref t) (.ref S) = some b := by
  have e1 : (PySem.W.subIn K (.ref S) (.type "BaseException") == some true) = true := by rw [h1] <;> rfl
  have e2 : ((PySem.W.clsIn K S).isSome && PySem.W.typeIn K (.ref S) == some (.type "type")) = true := by
    rw [show (PySem.W.clsIn K S).isSome = true from h2, h3] <;> rfl
  unfold PySem.W.exmOne
  rw [if_pos e1]
  show (if ((PySem.W.clsIn K S).isSome && PySem.W.typeIn K (.ref S) == some (.type "type")) = true then PySem.W.subIn K (.ref t) (.ref S) else none) = some b
  rw [if_pos e2]
  exact h4
theorem kit_of {K : PySem.W.Frag} {t S : Addr} {b : Bool} (hs : PySem.W.subIn K (.ref t) (.ref t) = some true) (h2 : PySem.W.isClsIn K S = true) (h3 : PySem.W.typeIn K (.ref S) = some (.type "type")) (h4 : PySem.W.subIn K (.ref t) (.ref S) = some b) :
    PySem.W.kitOne K (.ref t) (.ref S) = some b := by
  have e2 : ((PySem.W.clsIn K S).isSome && PySem.W.typeIn K (.ref S) == some (.type "type")) = true := by
    rw [show (PySem.W.clsIn K S).isSome = true from h2, h3] <;> rfl
  unfold PySem.W.kitOne
  by_cases e : ((Value.ref t : Value) == .ref S) = true
  · rw [if_pos e]
    have e' : t = S := by simpa using e
    subst e'
    exact hs.symm.trans h4
  · rw [if_neg e]
    show (if ((PySem.W.clsIn K S).isSome && PySem.W.typeIn K (.ref S) == some (.type "type")) = true then PySem.W.subIn K (.ref t) (.ref S) else none) = some b
    rw [if_pos e2]
    exact h4

end FR
set_option Elab.async false
set_option linter.all false
set_option maxRecDepth 100000
/-! operators, `in`, len, bool, str and == of own classes whose instances have a dict -/
namespace FR
open PySem PySem.Spec PyProof.Rows L2 TL
open SlX (cmpback run_at)
section
variable {X : Cx} {pins : List (Addr × Obj)} {σ : L2.St} {H : Hp} {s : Shared} {C g : Addr} {n : Nat} {sp : Sp} {E : XK} {CX : CXT}
theorem ins_inst {a dx : Addr} {fs : List (Str × V)} (I : Inv X pins σ H s) (e : H a = some (.ins C dx fs)) : ∃ od, PySem.W.InstAt s.heap a (PySem.W.instObj C dx) C (some od) := by
  obtain ⟨mA, O, _⟩ := ins_get I.hok e
  obtain ⟨od, J, _⟩ := O.look
  exact ⟨od, J⟩
/-- x op y, both of the class at C, its def for op at g -/
def rBinI (C : Addr) (sp : Sp) (E : XK) : R2 := fun x y H Q => ∃ a dx fs b dy gs, x = .ref a ∧ y = .ref b ∧ H a = some (.ins C dx fs) ∧ H b = some (.ins C dy gs) ∧ sp [x, y] H Q E
theorem op_binI {op : Operator} (hc : PySem.W.selfFirst X.K C = true) (hs : PySem.W.findIn X.K (.ref C) (PySem.dunder op.info.2) = some (some (.ref g))) (hf : PySem.W.isFn X.K (.ref g) = true) (F : FnR X.prog X.w X.K X.mg X.base CX n g sp)
    (hr : Room n X.A) (hx : Passes CX X E) : OpR X (binaryOp op) (rBinI C sp E) := by
  intro pins s σ H x y v u Q I rx ry h
  obtain ⟨a, dx, fs, b, dy, gs, rfl, rfl, ha, hb, q⟩ := h
  cases (show v = Value.ref a from rx)
  cases (show u = Value.ref b from ry)
  obtain ⟨od, J⟩ := ins_inst I ha
  obtain ⟨od', J'⟩ := ins_inst I hb
  obtain ⟨m, hF⟩ := I.fr
  refine PySem.W.binop_K (op := op) hF I.ok.mod.kin J J'.type hc hs hf ?_
  refine wpAny_mono (wpAny_call (run_fnR (us := [.ref a, .ref b]) (vs := [.ref a, .ref b]) F hr hx I (.cons rfl (.cons rfl .nil)) q)) (fun w s' z => ?_) fun _ _ x => x
  obtain ⟨z', H', I', rz, qz⟩ := z
  exact cmpback rz ⟨z', H', I', rz, qz⟩
/-- ~x -/
def rInvI (C : Addr) (sp : Sp) (E : XK) : V → Hp → VK → Prop := fun x H Q => ∃ a dx fs, x = .ref a ∧ H a = some (.ins C dx fs) ∧ sp [x] H Q E
theorem un_invI (hs : PySem.W.findIn X.K (.ref C) "__invert__" = some (some (.ref g))) (hf : PySem.W.isFn X.K (.ref g) = true) (F : FnR X.prog X.w X.K X.mg X.base CX n g sp)
    (hr : Room n X.A) (hx : Passes CX X E) : UnR X (unaryOp .Invert) (rInvI C sp E) := by
  intro pins s σ H x v Q I rx h
  obtain ⟨a, dx, fs, rfl, ha, q⟩ := h
  cases (show v = Value.ref a from rx)
  obtain ⟨od, J⟩ := ins_inst I ha
  obtain ⟨m, hF⟩ := I.fr
  exact PySem.W.ksp_inv hF I.ok.mod.kin J hs hf (wpAny_call (run_fnR (us := [.ref a]) (vs := [.ref a]) F hr hx I (.cons rfl .nil) q))
/-- x op y (a comparison), x of the class at C whose def for it is at g, y an instance of it too -/
def rCmpI (C : Addr) (sp : Sp) (E : XK) : R2 := fun x y H Q => ∃ a dx fs b dy gs, x = .ref a ∧ y = .ref b ∧ H a = some (.ins C dx fs) ∧ H b = some (.ins C dy gs) ∧ sp [x, y] H Q E
theorem op_cmpI {op : CmpOp} (hop : ∀ a b, compareOp op a b = richCompare op a b) (hs : PySem.W.findIn X.K (.ref C) (cmpInfo op).2.1 = some (some (.ref g))) (hf : PySem.W.isFn X.K (.ref g) = true) (F : FnR X.prog X.w X.K X.mg X.base CX n g sp)
    (hr : Room n X.A) (hx : Passes CX X E) : OpR X (compareOp op) (rCmpI C sp E) := by
  intro pins s σ H x y v u Q I rx ry h
  obtain ⟨a, dx, fs, b, dy, gs, rfl, rfl, ha, hb, q⟩ := h
  cases (show v = Value.ref a from rx)
  cases (show u = Value.ref b from ry)
  obtain ⟨od, J⟩ := ins_inst I ha
  obtain ⟨od', J'⟩ := ins_inst I hb
  obtain ⟨m, hF⟩ := I.fr
  rw [hop]
  refine PySem.W.cmp_K (op := op) (tb := .ref C) hr.units0 hF I.ok.mod.kin J J'.type (by unfold PySem.W.notFirst; simp) hs hf ?_
  refine wpAny_mono (wpAny_call (run_fnR (us := [.ref a, .ref b]) (vs := [.ref a, .ref b]) F hr hx I (.cons rfl (.cons rfl .nil)) q)) (fun w s' z => ?_) fun _ _ x => x
  obtain ⟨z', H', I', rz, qz⟩ := z
  exact cmpback rz ⟨z', H', I', rz, qz⟩
/-- v in x, x of the class at C; the answer of its def is a boolean -/
def rInI (C : Addr) (sp : Sp) (E : XK) : R2 := fun v x H Q => ∃ a dx fs, x = .ref a ∧ H a = some (.ins C dx fs) ∧ sp [x, v] H (fun z H' => ∃ b, z = .bl b ∧ Q (.bl b) H') E
theorem op_inI (hs : PySem.W.findIn X.K (.ref C) "__contains__" = some (some (.ref g))) (hf : PySem.W.isFn X.K (.ref g) = true) (F : FnR X.prog X.w X.K X.mg X.base CX n g sp)
    (hr : Room n X.A) (hx : Passes CX X E) : OpR X (compareOp .In) (rInI C sp E) := by
  intro pins s σ H x y v u Q I rx ry h
  obtain ⟨a, dx, fs, rfl, ha, q⟩ := h
  cases (show u = Value.ref a from ry)
  obtain ⟨od, J⟩ := ins_inst I ha
  obtain ⟨m, hF⟩ := I.fr
  refine PySem.W.in_K hF I.ok.mod.kin J hs hf (wpAny_mono (wpAny_call (run_fnR (us := [.ref a, v]) (vs := [.ref a, x]) F hr hx I (.cons rfl (.cons rx .nil)) q)) (fun w s' z => ?_) fun _ _ x => x)
  obtain ⟨z', H', I', rz, b, eb, qz⟩ := z
  subst eb
  cases (show w = Value.bool b from rz)
  exact wpAny_truthy_bool ⟨.bl b, H', I', rfl, qz⟩
/-- the truth of x, of the class at C with an own __bool__ -/
def rTruI (C : Addr) (sp : Sp) (E : XK) : V → Hp → (Bool → Hp → Prop) → Prop := fun x H Q => ∃ a dx fs, x = .ref a ∧ H a = some (.ins C dx fs) ∧ sp [x] H (fun z H' => ∃ b, z = .bl b ∧ Q b H') E
theorem tru_I (hs : PySem.W.findIn X.K (.ref C) "__bool__" = some (some (.ref g))) (hf : PySem.W.isFn X.K (.ref g) = true) (F : FnR X.prog X.w X.K X.mg X.base CX n g sp)
    (hr : Room n X.A) (hx : Passes CX X E) : TruR X (rTruI C sp E) := by
  intro pins s σ H x v Q I rx h
  obtain ⟨a, dx, fs, rfl, ha, q⟩ := h
  cases (show v = Value.ref a from rx)
  obtain ⟨od, J⟩ := ins_inst I ha
  obtain ⟨m, hF⟩ := I.fr
  refine PySem.W.truthy_K hF I.ok.mod.kin J hs hf (wpAny_mono (wpAny_call (run_fnR (us := [.ref a]) (vs := [.ref a]) F hr hx I (.cons rfl .nil) q)) (fun w s' z => ?_) fun _ _ x => x)
  obtain ⟨z', H', I', rz, b, eb, qz⟩ := z
  subst eb
  cases (show w = Value.bool b from rz)
  exact ⟨H', I', qz⟩
/-- len(x), x of the class at C with an own __len__ -/
def rLenI (C : Addr) (sp : Sp) (E : XK) : List V → Hp → VK → Prop := fun xs H Q => ∃ a dx fs, xs = [.ref a] ∧ H a = some (.ins C dx fs) ∧ sp xs H (fun z H' => ∃ i, z = .int i ∧ 0 ≤ i ∧ i < 2 ^ 63 ∧ Q (.int i) H') E
theorem call_lenI (hs : PySem.W.findIn X.K (.ref C) "__len__" = some (some (.ref g))) (hf : PySem.W.isFn X.K (.ref g) = true) (F : FnR X.prog X.w X.K X.mg X.base CX n g sp)
    (hr : Room (n + 1) X.A) (hx : Passes CX X E) : CallR X (.builtin "len") (rLenI C sp E) := by
  intro pins s σ H xs us Q I r h
  obtain ⟨a, dx, fs, rfl, ha, q⟩ := h
  obtain ⟨u, rfl, ru⟩ := r.one
  cases (show u = Value.ref a from ru)
  obtain ⟨od, J⟩ := ins_inst I ha
  obtain ⟨m, hF⟩ := I.fr
  refine PySem.W.len_K hF I.ok.mod.kin J hs hf (wpAny_mono (wpAny_call (run_at (us := [.ref a]) (ws := [.ref a]) F hr.in1 I.env0.in1 hx I (.cons rfl .nil) q)) (fun w s' z => ?_) fun _ _ x => x)
  obtain ⟨z', H', I', rz, i, ei, h0, h1, qz⟩ := z
  subst ei
  obtain ⟨t, e⟩ := (show ∃ t, w = Value.int i t from rz)
  cases e
  exact ⟨⟨h0, h1⟩, .int i, H', I'.tok _, ⟨_, rfl⟩, qz⟩
/-- str(x), x of the class at C with an own __str__ -/
def rStrI (C : Addr) (sp : Sp) (E : XK) : List V → Hp → VK → Prop := fun xs H Q => ∃ a dx fs, xs = [.ref a] ∧ H a = some (.ins C dx fs) ∧ sp xs H (fun z H' => ∃ t, z = .str t ∧ Q (.str t) H') E
theorem call_strI (hs : PySem.W.findIn X.K (.ref C) "__str__" = some (some (.ref g))) (hf : PySem.W.isFn X.K (.ref g) = true) (F : FnR X.prog X.w X.K X.mg X.base CX n g sp)
    (hr : Room (n + 2) X.A) (hx : Passes CX X E) : CallR X (.type "str") (rStrI C sp E) := by
  intro pins s σ H xs us Q I r h
  obtain ⟨a, dx, fs, rfl, ha, q⟩ := h
  obtain ⟨u, rfl, ru⟩ := r.one
  cases (show u = Value.ref a from ru)
  obtain ⟨od, J⟩ := ins_inst I ha
  have hr2 : Room n X.A.in1.in1 := (show Room (n + 1) X.A.in1 from Room.in1 hr).in1
  refine PySem.W.kso_call hr2.units0 I.kIn J hs hf (wpAny_mono (wpAny_call (run_at (us := [.ref a]) (ws := [.ref a]) F hr2 I.env0.in1.in1 hx I (.cons rfl .nil) q)) (fun w s' z => ?_) fun _ _ x => x)
  obtain ⟨z', H', I', rz, t, et, qz⟩ := z
  subst et
  obtain ⟨t', e⟩ := (show ∃ t', w = Value.str t t' from rz)
  cases e
  exact ⟨.str t, H', I', ⟨_, rfl⟩, qz⟩
end
end FR
set_option Elab.async false
set_option linter.all false
set_option maxRecDepth 100000
/-! x op= y of own classes without a def of their own for op= -/
namespace FR
open PySem PySem.W PySem.Calls PyProof.Rows
section
variable {prog : Program} {w : World} {M : Model} {A : Around} {E : Value → Shared → Prop} {s : Shared} {K : Frag} {x C L f : Addr} {h₀ : Heap} {m : Str → Option Value} {ox : Obj} {od : Option Obj} {nm : String} {cd : ClassData}
theorem inplace_no {h : Heap} {add : Bool} (X : K.In h) (hc : clsIn K C = some cd) (hm : cd.mro = [.ref C, .type "object"]) (h1 : findIn K (.ref C) (dunderI nm) = some none) (h2 : findIn K (.type "object") (dunderI nm) = some none) :
    Looks M h (fillsInplaceSlot (.ref C) nm add) false := by
  intro A Q E s k q
  have Lm : Looks M h (mroOf (.ref C)) cd.mro := (looks_clsIn X hc).andThen (f := fun cd => pure cd.mro) .now
  have Lm' := Lm.keeps k
  obtain ⟨hh, g, d, tk, os⟩ := s
  have X' : K.In hh := X.keeps k
  have L1 : Looks M hh (typeLookup (.ref C) (dunderI nm)) none := looks_findIn X' h1
  have L2 : Looks M hh (typeLookup (.type "object") (dunderI nm)) none := looks_findIn X' h2
  unfold fillsInplaceSlot
  refine wpAny_bind (Lm'.at ?_)
  rw [hm, List.anyM_cons]
  refine wpAny_bind ?_
  repeat lk
  exact q
theorem bin1_own {b : Value} {Q : Value → Shared → Prop} (X : K.In s.heap) (I : InstAt s.heap x ox C od) (hb : Looks M s.heap (typeOf b) (.ref C)) (hc : clsIn K C = some cd) (hm : cd.mro = [.ref C, .type "object"])
    (hs : findIn K (.ref C) (PySem.dunder nm) = some (some (.ref f))) (hf : isFn K (.ref f) = true)
    (h : wpAny M A (call (.ref f) [.ref x, b]) (PySem.W.CmpBack Q) E s) : wpAny M A (binaryOp1 nm (.ref x) b) (fun r s' => ∃ v, r = some v ∧ Q v s') E s := by
  have one := ksp_try X I hs hf h
  obtain ⟨hh, g, d, tk, os⟩ := s
  have L1 : Looks M hh (typeOf (.ref x)) (.ref C) := I.type
  have L2 : Looks M hh (typeOf b) (.ref C) := hb
  have L3 : Looks M hh (fillsNumberSlot (.ref C) nm) true := fills_K X hc hm hs
  unfold binaryOp1
  refine wpAny_bind (L1.at (wpAny_bind (L2.at (wpAny_bind (L3.at ?_)))))
  simp only [beq_self_eq_true, if_true]
  ksp_lk
  refine wpAny_mono one (fun r s' hr' => ?_) fun _ _ e => e
  obtain ⟨v, rfl, hq⟩ := hr'
  ksp_lk
  exact ⟨_, rfl, hq⟩
theorem inplace_own {op : Operator} {b : Value} {Q : Value → Shared → Prop} (X : K.In s.heap) (I : InstAt s.heap x ox C od) (hb : Looks M s.heap (typeOf b) (.ref C)) (hc : clsIn K C = some cd) (hm : cd.mro = [.ref C, .type "object"])
    (h1 : findIn K (.ref C) (dunderI op.info.2) = some none) (h2 : findIn K (.type "object") (dunderI op.info.2) = some none)
    (hs : findIn K (.ref C) (PySem.dunder op.info.2) = some (some (.ref f))) (hf : isFn K (.ref f) = true)
    (h : wpAny M A (call (.ref f) [.ref x, b]) (PySem.W.CmpBack Q) E s) : wpAny M A (inplaceOp op (.ref x) b) Q E s := by
  have one := bin1_own X I hb hc hm hs hf h
  obtain ⟨hh, g, d, tk, os⟩ := s
  have L1 : Looks M hh (typeOf (.ref x)) (.ref C) := I.type
  have L2 : Looks M hh (fillsInplaceSlot (.ref C) op.info.2 (op == .Add)) false := inplace_no X hc hm h1 h2
  unfold inplaceOp
  refine wpAny_holding ?_
  refine wpAny_bind (L1.at (wpAny_bind (L2.at ?_)))
  simp only [Bool.false_eq_true, if_false]
  refine wpAny_bind (wpAny_mono one (fun r s' hr' => ?_) fun _ _ e => e)
  obtain ⟨v, rfl, hq⟩ := hr'
  exact wpAny_pure hq
theorem ifBound_slot {name : Str} {id : String} {args : List Value} {Q : Option Value → Shared → Prop} (X : K.In s.heap) (I : InstAt s.heap x ox C od) (hs : findIn K (.ref C) name = some (some (.builtin id)))
    (hb : ∀ self, bindSpecial (.builtin id) self = pure (.builtin id, [self])) (h : wpAny M A (call (.builtin id) (.ref x :: args)) (fun v => Q (some v)) E s) : wpAny M A (callSpecialIfBound? (.ref x) name args) Q E s := by
  simp only [callSpecialIfBound?, bindSpecialIfBound?]
  refine wpAny_holding (wpAny_bind (wpAny_bind (wpAny_bind (I.type.here ((looks_findIn X hs).here ?_)))))
  simp only [hb]
  refine wpAny_bind (wpAny_askSetting (wpAny_ite ?_))
  have fin : wpAny M A (call (.builtin id) ([.ref x] ++ args) >>= fun v => pure (some v)) Q E s := wpAny_bind (wpAny_mono h (fun v s' h' => wpAny_pure h') fun _ _ h' => h')
  split
  · exact wpAny_bind (wpAny_pure (wpAny_pure (by exact fin)))
  · exact wpAny_tryCatch (wpAny_bind (wpAny_pure (wpAny_pure (by exact fin))))
open Builtin in
/-- object's «not equal» where the class has its own «equal», which answers a boolean -/
theorem objNe_own {b : Value} {Q : Value → Shared → Prop} (hu : A.in1.units < cLine) (X : K.In s.heap) (I : InstAt s.heap x ox C od) (hm : mroIn K C (.type "object") = some true) (hs : findIn K (.ref C) "__eq__" = some (some (.ref f))) (hf : isFn K (.ref f) = true)
    (h : wpAny (model prog w) A.in1 (call (.ref f) [.ref x, b]) (fun r s' => ∃ v, r = .bool v ∧ Q (.bool (!v)) s') E s) : wpAny (model prog w) A (call (.builtin "object.__ne__") [.ref x, b]) Q E s := by
  refine wpAny_call (codeAny_call_builtin PySem.F.cmp_object.ne.plain PySem.F.cmpEntry_ne (check_slot (i := "object.__ne__") (owner := "object") (n := "__ne__") (by decide +kernel) (by decide +kernel) (I.type.andThen (looks_mroIn X hm)) (PySem.F.cmpArgs_ne _ _) ?_))
  unfold Builtin.«object.__ne__»
  refine wpAny_bind (m := slotArgs "__ne__" 1 _) (wpAny_pure ?_)
  refine wpAny_bind (m := cRoomFor _ _) (wpAny_cRoomFor hu ?_)
  refine wpAny_bind (m := callSpecialIfBound? (.ref x) (Str.ofString "__eq__") _) (ifBound_K X I hs hf (wpAny_mono h (fun r s' hq => ?_) fun _ _ y => y))
  obtain ⟨v, rfl, q⟩ := hq
  refine wpAny_bind (wpAny_truthy_bool ?_)
  exact wpAny_pure q
/-- x != b where the class of x has an own «equal» alone -/
theorem rc_ne_own {b tb : Value} {Q : Value → Shared → Prop} (hu : A.units < cLine) (hu1 : A.in1.units < cLine) (X : K.In s.heap) (I : InstAt s.heap x ox C od) (hb : Looks (model prog w) s.heap (typeOf b) tb) (hn : notFirst K C tb = true)
    (hm : mroIn K C (.type "object") = some true) (hne : findIn K (.ref C) "__ne__" = some (some (.builtin "object.__ne__"))) (hs : findIn K (.ref C) "__eq__" = some (some (.ref f))) (hf : isFn K (.ref f) = true)
    (h : wpAny (model prog w) A.in1 (call (.ref f) [.ref x, b]) (fun r s' => ∃ v, r = .bool v ∧ Q (.bool (!v)) s') E s) : wpAny (model prog w) A (richCompare .NotEq (.ref x) b) Q E s := by
  have one : wpAny (model prog w) A (tryCompare (.ref x) (cmpInfo .NotEq).2.1 b) (fun r s' => ∃ v, r = some v ∧ Q v s') E s := by
    unfold tryCompare
    refine wpAny_bind (ifBound_slot X I hne PySem.F.cmp_object.ne.bind (objNe_own hu1 X I hm hs hf (wpAny_mono h (fun v s' hv => ?_) fun _ _ e => e)))
    obtain ⟨v, rfl, q⟩ := hv
    exact ⟨v, rfl, wpAny_pure ⟨_, rfl, q⟩⟩
  unfold richCompare
  simp only [oneThing_ref]
  refine wpAny_holding (wpAny_bind (wpAny_cRoomFor hu ?_))
  refine wpAny_bind (I.type.here (wpAny_bind (hb.here ?_)))
  split
  · rename_i q
    have e : subIn K tb (.ref C) = some false := by
      rcases Bool.or_eq_true_iff.mp hn with e | e
      · rw [beq_iff_eq.mp e] at q; simp at q
      · exact beq_iff_eq.mp e
    refine wpAny_bind ((looks_subIn X e).here ?_)
    simp only [Bool.false_eq_true, if_false]
    refine wpAny_bind (wpAny_mono one (fun r s' z => ?_) fun _ _ e => e)
    obtain ⟨v, rfl, hq⟩ := z
    exact wpAny_pure hq
  · refine wpAny_bind (wpAny_pure ?_)
    simp only [Bool.false_eq_true, if_false]
    refine wpAny_bind (wpAny_mono one (fun r s' z => ?_) fun _ _ e => e)
    obtain ⟨v, rfl, hq⟩ := z
    exact wpAny_pure hq
end
section
open L2
open SlX (cmpback run_at)
variable {X : Cx} {C g : Addr} {n : Nat} {sp : Sp} {E : XK} {CX : CXT}
theorem op_ibinI {op : Operator} {cd : ClassData} (hc : clsIn X.K C = some cd) (hm : cd.mro = [.ref C, .type "object"]) (h1 : findIn X.K (.ref C) (dunderI op.info.2) = some none) (h2 : findIn X.K (.type "object") (dunderI op.info.2) = some none)
    (hs : findIn X.K (.ref C) (PySem.dunder op.info.2) = some (some (.ref g))) (hf : isFn X.K (.ref g) = true) (F : FnR X.prog X.w X.K X.mg X.base CX n g sp) (hr : Room n X.A) (hx : Passes CX X E) : InOp X op (rBinI C sp E) := by
  intro pins s σ H x y v u Q I rx ry h
  obtain ⟨a, dx, fs, b, dy, gs, rfl, rfl, ha, hb, q⟩ := h
  cases (show v = Value.ref a from rx)
  cases (show u = Value.ref b from ry)
  obtain ⟨od, J⟩ := ins_inst I ha
  obtain ⟨od', J'⟩ := ins_inst I hb
  refine inplace_own I.kIn J J'.type hc hm h1 h2 hs hf ?_
  refine wpAny_mono (wpAny_call (run_fnR (us := [.ref a, .ref b]) (vs := [.ref a, .ref b]) F hr hx I (.cons rfl (.cons rfl .nil)) q)) (fun w s' z => ?_) fun _ _ x => x
  obtain ⟨z', H', I', rz, qz⟩ := z
  exact cmpback rz ⟨z', H', I', rz, qz⟩
/-- x != y, both of the class at C with an own «equal» alone -/
def rNeI (C : Addr) (sp : Sp) (E : XK) : R2 := fun x y H Q => ∃ a dx fs b dy gs, x = .ref a ∧ y = .ref b ∧ H a = some (.ins C dx fs) ∧ H b = some (.ins C dy gs) ∧ sp [x, y] H (fun z H' => ∃ v, z = .bl v ∧ Q (.bl (!v)) H') E
theorem op_neI (hm : mroIn X.K C (.type "object") = some true) (hne : findIn X.K (.ref C) "__ne__" = some (some (.builtin "object.__ne__"))) (hs : findIn X.K (.ref C) "__eq__" = some (some (.ref g))) (hf : isFn X.K (.ref g) = true)
    (F : FnR X.prog X.w X.K X.mg X.base CX n g sp) (hr : Room (n + 1) X.A) (hx : Passes CX X E) : OpR X (compareOp .NotEq) (rNeI C sp E) := by
  intro pins s σ H x y v u Q I rx ry h
  obtain ⟨a, dx, fs, b, dy, gs, rfl, rfl, ha, hb, q⟩ := h
  cases (show v = Value.ref a from rx)
  cases (show u = Value.ref b from ry)
  obtain ⟨od, J⟩ := ins_inst I ha
  obtain ⟨od', J'⟩ := ins_inst I hb
  refine rc_ne_own (tb := .ref C) hr.units0 hr.in1.units0 I.kIn J J'.type (by unfold notFirst; simp) hm hne hs hf ?_
  refine wpAny_mono (wpAny_call (run_at (us := [.ref a, .ref b]) (ws := [.ref a, .ref b]) F hr.in1 I.env0.in1 hx I (.cons rfl (.cons rfl .nil)) q)) (fun w s' z => ?_) fun _ _ x => x
  obtain ⟨z', H', I', rz, b', eb, qz⟩ := z
  subst eb
  cases (show w = Value.bool b' from rz)
  exact ⟨b', rfl, .bl (!b'), H', I', rfl, qz⟩
end
end FR
set_option Elab.async false
set_option linter.all false
set_option maxRecDepth 100000
/-! the keys of a dict of the module, walked -/
namespace FR
open PySem PySem.Spec PyProof.Rows L2 TL
/-- at d: a dict of the module whose keys are the texts ks -/
structure WDict (K : PySem.W.Frag) (d : Addr) (ks : List Str) : Prop where
  ex : ∃ (o : Obj) (es : Array DictEntry) (ep : Nat), K.lookup d = some o ∧ o.ExactDict ∧ o.data = .dict es ep ∧ es.size = ks.length ∧ ∀ (i : Nat) (k : Str), ks[i]? = some k → ∃ (en : DictEntry) (t : Tok), es[i]? = some en ∧ en.key = Value.str k t
  low : (d == sysModules) = false
/-- its keys, in their order -/
def ItW (ks : List Str) : It := ⟨fun i H => i < ks.length, fun i H x H' => H' = H ∧ ∃ k, ks[i]? = some k ∧ x = .str k, fun i H => ks.length ≤ i⟩
section
variable {P : Program} {w : World} {K : PySem.W.Frag} {tg : Expr} {d : Addr} {o : Obj} {es : Array DictEntry} {ep : Nat} {ks : List Str}
theorem turn_keysW (it : Addr) (hl : K.lookup d = some o) (hod : o.data = .dict es ep) (hsz : es.size = ks.length) (ent : ∀ (i : Nat) (k : Str), ks[i]? = some k → ∃ (en : DictEntry) (t : Tok), es[i]? = some en ∧ en.key = Value.str k t) :
    Turn P w K tg (ItW ks) [it] it (fun i h => h.IsKeyIter it d i ks.length ep) where
  mem := by simp
  obj := fun i h st b hb => by
    have e : b = it := by simpa using hb
    subst e
    obtain ⟨oi, e, c, dd⟩ := st
    exact ⟨oi, e, fun v z => by rw [dd] at z; cases z⟩
  keep := fun i h h' st k => st.at fun oi e => k it (by simp) oi e
  item := by
    intro X hP hw hK hc i pins s σ H E I hf st hi
    subst hP hw hK
    obtain ⟨f0, f1, f2, f3, f4, f5⟩ := hf it (by simp)
    obtain ⟨k, hk⟩ : ∃ k, ks[i]? = some k := ⟨ks[i]'hi, List.getElem?_eq_getElem hi⟩
    obtain ⟨en, t, hen, hkey⟩ := ent i k hk
    refine next_key_item st (I.kIn _ _ hl) hod hsz hen fun h' st' sb => ?_
    have I1 : Inv X pins σ H { s with heap := h' } := I.turned (t' := s.toks) (fun b ob hb e => (sb.2 b hb).trans e) f0 f1 f3 f4 f5
    obtain ⟨oi, e, c, dd⟩ := id st'
    exact ⟨en.key, rfl, go_of (s := { s with heap := h' }) e c dd (by decide) ⟨.str k, H, I1, by rw [hkey]; exact ⟨t, rfl⟩, ⟨rfl, k, hk, rfl⟩, st', fun b hb => (hf b hb).1⟩⟩
  done := by
    intro X hP hw hK hc i pins s σ H E I hf st hi
    subst hP hw hK
    obtain ⟨f0, f1, f2, f3, f4, f5⟩ := hf it (by simp)
    exact next_key_end (I.ok.hd hc) st (I.kIn _ _ hl) hod hsz hi fun h' eb => ⟨rfl, I.turned (t' := s.toks) (fun b ob hb e => eb b ob hb e) f0 f1 f3 f4 f5⟩
  self := fun A i s Q E st h => wpAny_pyIter_keyiter st h
end
/-- a walk over e, which is that dict -/
def iKeysW (td : TE) (d : Addr) (ks : List Str) : TI := fun σ H R => td σ H fun x H1 => x = .ref d ∧ R (ItW ks) H1
theorem pi_keysW {X : Cx} {tg e : Expr} {td : TE} {d : Addr} {ks : List Str} (D : WDict X.K d ks) (he : PE X e td) : PI X tg e (iKeysW td d ks) := by
  refine ⟨fun pins s σ H R I h => ?_⟩
  refine thn (he.run pins s σ H _ I h) fun u s1 ⟨x, H1, I1, rx, ex, q⟩ => ?_
  subst ex
  obtain rfl : u = Value.ref d := rx
  obtain ⟨o, es, ep, hl, hx, hdt, hsz, ent⟩ := D.ex
  refine iter_keys D.low (I1.kIn _ _ hl) hx hdt (pi_one (tk := s1.toks) I1 _ (turn_keysW _ hl hdt hsz ent) ⟨_, Heap.get?_push_size _ rfl, rfl, ?_⟩ q)
  rw [hsz] <;> rfl
theorem walk_keysW {ks : List Str} : Walk (ItW ks) ks.length (fun _ => True) (fun i H x H' => H' = H ∧ ∃ k, ks[i]? = some k ∧ x = .str k) :=
  ⟨fun _ _ hi _ => hi, fun _ _ => Nat.le_refl _, fun _ _ _ _ _ _ y => y⟩
end FR
set_option Elab.async false
set_option linter.all false
set_option maxRecDepth 100000
set_option maxHeartbeats 4000000
/-! set(x) of a text of unlike signs of seven bits; its len -/
namespace FR
open PySem PySem.Spec PyProof.Rows PySem.Froz
section
variable {P : Program} {w : World} {A : Around} {E : Value → Shared → Prop} {s : Shared}
theorem run_ok : ∀ (cs : List Nat) (tk : Tok) (D : SD) (l : List Str), TxOk P w D l → ∃ l', TxOk P w (runD w cs tk D) l' ∧ l'.length = l.length + cs.length
  | [], _, _, l, F => ⟨l, F, rfl⟩
  | c :: r, tk, D, l, F => by
    obtain ⟨l', F', e⟩ := run_ok r (tk + 2) _ (sing c :: l) (add_ok (k := sing c) tk F)
    exact ⟨l', F', by rw [e]; show l.length + 1 + r.length = l.length + (r.length + 1); omega⟩
theorem call_set_txt {x : Str} {u : Tok} {Q : Value → Shared → Prop} (hh : A.handled = none) (ha : x.cps.all (· < 128) = true) (hd : x.cps.toList.Nodup) (hb : x.cps.toList.length < scanBound)
    (h : ∀ (h' : Heap) (tk : Nat) (D : SD) (l : List Str), h'.get? s.heap.objs.size = some (sObj "set" D) → TxOk P w D l → l.length = x.cps.toList.length → (∀ b o, b < s.heap.objs.size → s.heap.get? b = some o → h'.get? b = some o) →
      Q (.ref s.heap.objs.size) { s with heap := h', toks := tk }) :
    wpAny (model P w) A (call (.type "set") [.str x u]) Q E s := by
  obtain ⟨c, tl, hmro⟩ := PySem.F.called_set.mro
  have hmade := PySem.F.called_set.made
  have hsub := PySem.F.called_set.sub
  refine wpAny_call (codeAny_of_tree ?_)
  show wpAny _ _ (callAny (.type "set") _) _ _ _
  refine wpAny_pure ⟨Code.quiet_builtin _ (by decide +kernel), codeAny_builtin PySem.F.entry_type_call ?_⟩
  rw [Around.under_plain (weight_type_call_type "set" [.str x u] []) rfl]
  have h1 := PySem.F.called_set.notType
  have h2 := PySem.F.called_set.canCreate
  have hct := PySem.F.typeCall_set_1 (.str x u)
  repeat (any_goals (first | assumption | wp_step))
  let S0 : Bool → Obj := fun led => { cls := .type "set", dict := none, data := .set #[] 0 (.fresh 0 0 led) }
  refine codeAny_mono (code_set_new_1 (.str x u) (E := E) (Q₁ := fun obj s1 => ∃ led : Bool, obj = .ref s.heap.objs.size ∧ s1 = { s with heap := s.heap.push (S0 led) }) fun led => ⟨led, rfl, rfl⟩) fun r s1 hr => ?_
  match r, hr with
  | .error e, hr => exact hr
  | .ok (.ret obj), hr =>
    obtain ⟨led, rfl, rfl⟩ := hr
    have hS : (s.heap.push (S0 led)).get? s.heap.objs.size = some (S0 led) := Heap.get?_push_size _ rfl
    have hT : Shared.TypeIs { s with heap := s.heap.push (S0 led) } (.ref s.heap.objs.size) "set" := ⟨_, hS, rfl⟩
    have hli := PySem.F.called_set.init.lookup
    have hbi := PySem.F.called_set.init.bind (.ref s.heap.objs.size)
    repeat (any_goals (first | assumption | wp_step))
    refine codeAny_mono (codeAny_call_builtin (R := wants (fun r s2 => r = .none ∧ ∃ (h' : Heap) (tk : Nat) (D : SD) (l : List Str), s2 = { s with heap := h', toks := tk } ∧ h'.get? s.heap.objs.size = some (sObj "set" D) ∧ TxOk P w D l ∧ l.length = x.cps.toList.length ∧
      (∀ b o, b < s.heap.objs.size → s.heap.get? b = some o → h'.get? b = some o)) E) PySem.F.called_set.init.plain PySem.F.entry_set_init (check_set_init_1 hT ?_)) fun r2 s2 hr2 => ?_
    · have hs1 := PySem.F.sub_str_set
      have hs2 := PySem.F.sub_str_frozenset
      have hne : (Value.type "str" == Value.type "dict") = false := by decide
      unfold Builtin.«set.__init__» noKeywords Builtin.Frozenset.updateFrom
      generalize hPI : pyIter = PI
      wp_walk
      subst hPI
      refine wpAny_pyIter_ascii ha ?_
      refine wpAny_bind (wpAny_runValue ?_)
      have hsz : (s.heap.push (S0 led)).objs.size = s.heap.objs.size + 1 := Heap.size_push ..
      have hne2 : s.heap.objs.size ≠ (s.heap.push (S0 led)).objs.size := by omega
      have F0 : TxOk P w (#[], 0, .fresh 0 0 led) [] := TxOk.nil (by rfl)
      obtain ⟨l, Fl, el⟩ := run_ok x.cps.toList s.toks (#[], 0, .fresh 0 0 led) [] F0
      refine code_update (T := "set") (x := x) (u := u) (P := P) (w := w) hne2 (by simp [hh]) x.cps.toList 0 (#[], 0, .fresh 0 0 led) [] _ rfl (Heap.get?_push_of_some _ hS) (Heap.get?_push_size _ rfl) F0 (by simp) hd (by simpa using hb) ?_
      show wpAny _ _ (pure ()) _ _ _
      refine wpAny_pure ?_
      show wpAny _ _ (ret Value.none) _ _ _
      have hS2 : ∀ o : Obj, ((s.heap.push (S0 led)).push o).get? s.heap.objs.size = some (S0 led) := fun o => Heap.get?_push_of_some _ hS
      refine wpAny_pure ⟨rfl, _, _, _, l, rfl, ?_, Fl, by rw [el]; exact Nat.zero_add _, fun b o hb2 e => ?_⟩
      · exact Heap.get?_push_of_some _ (Heap.get?_push_of_some _ (Heap.get?_update_of_ne _ (Ne.symm hne2) (get_upd _ (hS2 _) rfl)))
      · have n1 : b ≠ s.heap.objs.size := Nat.ne_of_lt hb2
        have n2 : b ≠ (s.heap.push (S0 led)).objs.size := by omega
        exact Heap.get?_push_of_some _ (Heap.get?_push_of_some _ (Heap.get?_update_of_ne _ (Ne.symm n2) (Heap.get?_update_of_ne _ (Ne.symm n1) (Heap.get?_push_of_some _ (Heap.get?_push_of_some _ e)))))
    · match r2, hr2 with
      | .error e, hr2 => exact hr2
      | .ok (.ret r), hr2 =>
        obtain ⟨rfl, h', tk, D, l, rfl, g1, g2, g3, g4⟩ := hr2
        repeat (any_goals (first | assumption | wp_step))
        exact h _ _ _ _ g1 g2 g3 g4
      | .ok .next, hr2 => exact hr2.elim
      | .ok .brk, hr2 => exact hr2.elim
      | .ok .cont, hr2 => exact hr2.elim
  | .ok .next, hr => exact hr.elim
  | .ok .brk, hr => exact hr.elim
  | .ok .cont, hr => exact hr.elim
end
section
open L2
def tLenSetT (ta : TE) : TE := fun σ H Q => ta σ H fun x H1 => ∃ t : Str, x = .str t ∧ t.cps.all (· < 128) = true ∧ t.cps.toList.Nodup ∧ t.cps.toList.length ≤ 4000 ∧ Q (.int (t.length : Nat)) H1
/-- len(set(e)), e a text of unlike signs -/
theorem pe_lenSetT {X : Cx} {a : Expr} {ta : TE} {p p2 q pos : Pos} (hg : Gl X "len") (hm : X.mg "len" = none) (hg2 : Gl X "set") (hm2 : X.mg "set" = none) (ha : PE X a ta) (hc : X.calm = true := by rfl)
    (na : starEach [a] X.env = (false, eval a X.env) :: starEach [] X.env := by rfl) : PE X (.Call (.Name "len" p) [.Call (.Name "set" p2) [a] [] q] [] pos) (tLenSetT ta) := by
  refine ⟨fun pins s σ H Q I h => ?_⟩
  refine Call_ (ld_blt I hg hm boot_len ?_)
  refine PyProof.Rows.callWith_builtin1 (PyProof.Rows.args_cons ?_ rfl) rfl rfl
  refine Call_ (ld_blt I hg2 hm2 (show bootBuiltins ("set" : Str) = some (.type "set") by decide +kernel) ?_)
  refine PyProof.Rows.callWith_type1 (PyProof.Rows.args_cons (thn (ha.run pins s σ H _ I h) fun v s1 ⟨x, H1, I1, r1, q1⟩ => PyProof.Rows.args_nil ?_) na) na rfl
  obtain ⟨t, rfl, h1, h2, h3, q1⟩ := q1
  obtain ⟨tk0, rfl⟩ := r1
  refine call_set_txt (I1.ok.hd hc) h1 h2 (by unfold scanBound; omega) fun h' tk D l g1 F el hk => ?_
  refine PyProof.Rows.args_nil ?_
  have I2 : Inv X pins σ H1 { s1 with heap := h', toks := tk } := I1.kept fun b o e => hk b o (Heap.lt_size e) e
  have hn : D.1.size = t.length := by rw [F.sz, el]; rfl
  exact call_len_set (es := D.1) (ep := D.2.1) (t := D.2.2) g1 ⟨rfl, rfl, rfl⟩ rfl F.fit (by rw [hn]; show ((t.cps.size : Nat) : Int) < _; rw [← Array.length_toList]; omega) ⟨.int t.length, H1, I2.tok _, ⟨_, by rw [hn]⟩, q1⟩
end
end FR
set_option Elab.async false
set_option linter.all false
set_option maxRecDepth 100000
/-! whole numbers as tests; dicts of the module inside a comprehension -/
namespace FR
open PySem PySem.Spec PyProof.Rows L2
def tTruI (ta : TE) : TT := fun σ H Q => ta σ H fun x H' => ∃ i, x = .int i ∧ Q (i != 0) H'
theorem pt_truthI {X : Cx} {a : Expr} {ta : TE} (ha : PE X a ta) (he : ∀ whole, isTrue a X.env whole = (do let v ← whole; standAt a.pos; holding [v] (truthy v))) : PT X a (tTruI ta) := by
  refine ⟨fun pins s σ H Q I h => ?_⟩
  exact isTrue_plain (thn (ha.run pins s σ H _ I h) fun v s1 ⟨x, H1, I1, r1, i, ex, q1⟩ => tru_ok pins s1 σ H1 x v Q I1 r1 ⟨i != 0, by subst ex; rfl, q1⟩) (he _)
theorem ix_kdictK {X : Cx} {K : PySem.W.Frag} {w : World} (hk : X.K = K) (hw : X.w = w) : IxR X (rIxD K w) := by
  subst hk hw
  exact ix_kdict
def rInW (K : PySem.W.Frag) (d : Addr) : R2 := fun x y H Q => ∃ (z : Str) (r : Option Value), x = .str z ∧ y = .ref d ∧ PySem.W.nsIn K d z = some r ∧ Q (.bl r.isSome) H
theorem op_inW {X : Cx} {K : PySem.W.Frag} {w : World} {d : Addr} (hk : X.K = K) (hw : X.w = w) (D : ∃ es n, KDict K w d es n) : OpR X (compareOp .In) (rInW K d) := by
  subst hk hw
  obtain ⟨es, n, D⟩ := D
  exact op_in_kd D
end FR
set_option Elab.async false
set_option linter.all false
set_option maxRecDepth 100000
/-! a comprehension over the keys of a dict of the module -/
namespace FR
open PySem PySem.Spec PyProof.Rows L2
theorem lc_kw {g : TG} {tt : TT} {te : TE} {vs : List Nat} {σ : L2.St} {H1 : Hp} {D : Addr} {Qd : Hp → Prop} {ks : List Str} (Pv : List Str → Hp → Prop) (h0 : Pv [] (upd H1 D (.lst [])))
    (hs : ∀ pre k post H, ks = pre ++ k :: post → Pv pre H → g (.str k) (wipe σ vs) H fun σ2 H2 => wipe σ2 vs = wipe σ vs ∧ tt σ2 H2 fun b H3 =>
      if b = true then te σ2 H3 fun y H4 => ∃ acc, H4 D = some (.lst acc) ∧ acc.length < sizeLine ∧ Pv (pre ++ [k]) (upd H4 D (.lst (acc ++ [y]))) else Pv (pre ++ [k]) H3) (hd : ∀ H, Pv ks H → Qd H) :
    ∃ W : Nat → Nat → Hp → Prop, (∃ m, W 0 m (upd H1 D (.lst []))) ∧ ∀ i m H, W i m H →
      ((ItW ks).stop i H ∧ Qd H) ∨ ((ItW ks).go i H ∧ ∃ Nx : Hp → Prop, (∀ H', Nx H' → ∃ m', m' < m ∧ W (i + 1) m' H') ∧ ∀ x H', (ItW ks).yld i H x H' → g x (wipe σ vs) H' fun σ2 H2 => wipe σ2 vs = wipe σ vs ∧ tt σ2 H2 fun b H3 =>
        if b = true then te σ2 H3 fun y H4 => ∃ acc, H4 D = some (.lst acc) ∧ acc.length < sizeLine ∧ Nx (upd H4 D (.lst (acc ++ [y]))) else Nx H3) := by
  refine lc_it walk_keysW (fun i H => Pv (ks.take i) H) (by simpa using h0) (fun _ _ _ _ => True.intro) ?_ (fun H p => hd H (by rw [List.take_length] at p; exact p))
  rintro i x H H' hi p ⟨rfl, k, hk, rfl⟩
  have e : ks = ks.take i ++ k :: ks.drop (i + 1) := by
    have h2 : ks[i] = k := by rw [List.getElem?_eq_getElem hi] at hk; exact Option.some.inj hk
    rw [← h2, ← List.drop_eq_getElem_cons hi, List.take_append_drop]
  have e2 : ks.take (i + 1) = ks.take i ++ [k] := by rw [List.take_add_one, hk]; rfl
  rw [e2]
  exact hs _ k _ _ e p
end FR
set_option Elab.async false
set_option linter.all false
set_option maxRecDepth 100000
/-! list(x) of a text -/
namespace FR
open PySem PySem.Spec PyProof.Rows L2 TL
def rListT : List V → Hp → VK → Prop := fun xs H Q => ∃ x : Str, xs = [.str x] ∧ x.cps.size ≤ sizeLine ∧ NewS (.lst ((tl x).map fun c => .str ⟨#[c]⟩)) Q H
theorem call_listT {X : Cx} (hc : X.calm = true) : CallR X (.type "list") rListT := by
  intro pins s σ H xs us Q I r h
  obtain ⟨x, rfl, hz, q⟩ := h
  obtain ⟨u, rfl, t, rfl⟩ : ∃ u, us = [u] ∧ ∃ t, u = Value.str x t := by
    cases r with
    | cons a b => cases b; exact ⟨_, rfl, a⟩
  refine call_list_str (hn := hz) (I.ok.hd hc) x t fun h' tk acc' c' hkeep hS hacc => ?_
  refine ⟨.ref s.heap.objs.size, upd H s.heap.objs.size (.lst ((tl x).map fun c => .str ⟨#[c]⟩)), I.laid hkeep (Nat.le_refl _) (show ObjOk X.prog X.w _ _ _ (.lst ((tl x).map fun c => .str ⟨#[c]⟩)) from ⟨?_, acc'.toList, c', ?_, ?_⟩), rfl,
    q.to _ _ (I.hok.fresh (Nat.le_refl _)) I.big (keep_new (I.hok.fresh (Nat.le_refl _))) upd_same⟩
  · rw [List.length_map]
    simpa using hz
  · have el : acc'.toList.length = acc'.size := by simp
    refine vals_of_at (by rw [List.length_map, el, hacc.1]; simp) fun j y v h1 h2 => ?_
    obtain ⟨c, tk2, hj, rfl⟩ := hacc.2 j v (by rw [← Array.getElem?_toList]; exact h2)
    rw [List.getElem?_map, show (tl x)[j]? = some c by simpa using hj] at h1
    cases h1
    exact ⟨tk2, rfl⟩
  · rw [Array.toArray_toList]; exact hS
end FR
set_option Elab.async false
set_option linter.all false
set_option maxRecDepth 100000
/-! x = e.replace(old, new) in a def: it wants that something has been made before, as it has where a def runs -/
namespace FR
open PySem PySem.Spec PyProof.Rows L2 TL
theorem okT {P : Program} {w : World} {K : PySem.W.Frag} {mg : Str → Option Value} {base : Heap} {x qual : Str} {st : Stmt} {f : Addr} {fd : FuncData} {N ps : List Str} {k : Nat} {sp : Sp}
    (F : Fun K x qual st f fd) (S : FnScope N ps (defScope st)) (nc : ∀ y ∈ (defScope st).names, y.2 ≠ NameKind.cell) (hp : 1 ≤ ps.length) (len : ∀ vs H Q E, sp vs H Q E → vs.length = ps.length)
    (body : ∀ (cdv : Value) (A : Around) (outer : List Env) (s : Shared) (H : Hp) (vs : List V) (Q : VK) (E : XK), Room k (A.deeper (envOfC qual (defScope st) s.heap.objs.size f cdv)) → sp vs H Q E →
      ∃ t, PSsT (cxOf CX0 P w K mg base N qual (defScope st) f cdv A outer s H E) (defBody st) t ∧ t { nx := fun _ H' => Q .non H', rt := Q } (start N vs) H) :
    FnOk P w K mg base CX0 (k + 1) f fd ps sp := by
  obtain ⟨oc, od, kV, doc, pm, an, cdv, ct, osl, rfl, hl, hc⟩ := F.ex
  exact fn_ofT hl hc S nc hp len fun A outer s H vs Q E hr h => body cdv A outer s H vs Q E hr h
theorem pst_asg {X : Cx} {pos : Pos} {tg e : Expr} {te : TE} {g : TG} (he : PET X e te) (hg : PG X tg g) (h1 : swapsWithSole [tg] e pos.line X.env = pure false := by rfl)
    (h2 : swappedStores [tg] e X.env = pure none := by rfl) (h3 : (assignEach [tg] X.env).map (fun x => x.2) = [assign tg X.env] := by rfl) : PST X (.Assign [tg] e pos) (tAsg te g) := by
  intro pins s σ H D ht I h
  refine wpAny_Assign_stores (wpAny_mono (he pins s σ H _ ht I h) (fun v s1 z => ?_) fun _ _ z => z) h1 h2
  obtain ⟨x, H1, I1, r1, q⟩ := z
  rw [h3]
  unfold assignAll
  exact wpAny_mono (hg.run pins s1 σ H1 x v _ I1 r1 q) (fun u s2 z => z) fun _ _ z => z
/-- without its slashes -/
def noSl (s : Str) : Str := Txt.replace s "/" ""
theorem repl_filter (c : Nat) : ∀ l : List Nat, PySem.StrLaws.replL [c] [] l = l.filter (fun d => d != c)
  | [] => PySem.StrLaws.replL_nil
  | d :: r => by
    by_cases e : d = c
    · subst e
      rw [PySem.StrLaws.replL_hit (by simp) (by simp)]
      simpa using repl_filter d r
    · rw [PySem.StrLaws.replL_miss (by simp [e]), repl_filter c r]
      simp [e]
theorem tl_noSl (s : Str) : tl (noSl s) = (tl s).filter (fun d => d != 47) := by
  refine (PySem.StrLaws.replace_list (x := s) (y := "/") (z := "") (by decide +kernel)).trans ?_
  exact repl_filter 47 _
theorem noSl_asc {s : Str} (a : Asc s) : Asc (noSl s) := fun c hc => a c (by rw [tl_noSl] at hc; exact (List.mem_filter.mp hc).1)
end FR
set_option Elab.async false
set_option linter.all false
set_option maxRecDepth 100000
/-! the parts of a path, and what is left of it without its slashes -/
namespace FR
open PySem PySem.Spec PyProof.Rows L2 TL
theorem spl_all (c : Nat) : ∀ (l acc : List Nat), (spl [c] 0 acc l).flatten = acc ++ l.filter (fun d => d != c)
  | [], acc => by rw [spl_nil]; simp
  | x :: r, acc => by
    by_cases e : pre [c] (x :: r) = true
    · rw [spl_hit e]
      have : x = c := by rw [pre_one] at e; simpa using e
      subst this
      have := spl_all x r []
      simp only [List.flatten_cons]
      show acc ++ (spl [x] 0 [] r).flatten = _
      rw [this]
      simp
    · rw [spl_miss (by simpa using e), spl_all c r (acc ++ [x])]
      have : x ≠ c := by rw [pre_one] at e; simpa using e
      simp [this]
theorem path_parts {s : Str} (h : Txt.startswith s ⟨#[47]⟩ = true) : (((Txt.split s ⟨#[47]⟩).drop 1).map tl).flatten = tl (noSl s) ∧ (Txt.split s ⟨#[47]⟩).drop 1 ≠ [] := by
  rw [starts_one] at h
  have e1 : ((Txt.split s ⟨#[47]⟩).drop 1).map tl = (spl [47] 0 [] (tl s)).drop 1 := by rw [List.map_drop, split_tl _ (by decide)]
  cases e : tl s with
  | nil => rw [e] at h; cases h
  | cons c r =>
    rw [e] at h
    have : c = 47 := by simpa using h
    subst this
    have e2 : (spl [47] 0 [] (47 :: r)).drop 1 = spl [47] 0 [] r := by
      rw [spl_hit (by rw [pre_one]; rfl)]
      rfl
    rw [e, e2] at e1
    constructor
    · rw [e1, spl_all, tl_noSl, e]
      simp
    · intro h0
      rw [h0] at e1
      have : ∀ (l acc : List Nat), spl [47] 0 acc l ≠ [] := by
        intro l
        induction l with
        | nil => intro acc; rw [spl_nil]; simp
        | cons x r ih =>
          intro acc
          by_cases e : pre [47] (x :: r) = true
          · rw [spl_hit e]; simp
          · rw [spl_miss (by simpa using e)]; exact ih _
      exact this r [] e1.symm
theorem path_split {s : Str} (h : Txt.startswith s ⟨#[47]⟩ = true) (p : Nat → Bool) :
    ((Txt.split s ⟨#[47]⟩).drop 1).all (fun u => decide (u ≠ Str.ofString "" ∧ u.length ≤ 8) && (tl u).all p) =
      ((decide (noSl s ≠ Str.ofString "") && (tl (noSl s)).all p) && ((Txt.split s ⟨#[47]⟩).drop 1).all (fun u => decide (1 ≤ u.length ∧ u.length ≤ 8))) := by
  obtain ⟨hf, hn⟩ := path_parts h
  have ne : ∀ u : Str, u ≠ Str.ofString "" ↔ 1 ≤ u.length := fun u => by
    constructor
    · intro e
      rcases Nat.eq_zero_or_pos u.length with z | z
      · refine absurd (ext_tl ?_) e
        rw [len_tl] at z
        rw [List.length_eq_zero_iff.mp z]
        decide +kernel
      · exact z
    · intro e h
      rw [h] at e
      exact absurd e (by decide +kernel)
  rw [Bool.eq_iff_iff, ← hf, List.all_flatten, List.all_map]
  simp only [Bool.and_eq_true, List.all_eq_true, decide_eq_true_eq, Function.comp]
  generalize (Txt.split s ⟨#[47]⟩).drop 1 = ps at hf hn
  constructor
  · intro a
    refine ⟨⟨?_, fun u hu => (a u hu).2⟩, fun u hu => ⟨(ne u).mp (a u hu).1.1, (a u hu).1.2⟩⟩
    intro e
    cases ps with
    | nil => exact hn rfl
    | cons u r =>
      have hu := (ne u).mp (a u (by simp)).1.1
      rw [e] at hf
      have := congrArg List.length hf
      rw [List.map_cons, List.flatten_cons, List.length_append, ← len_tl] at this
      have z : (tl (Str.ofString "")).length = 0 := by decide +kernel
      omega
  · rintro ⟨⟨_, a⟩, b⟩ u hu
    exact ⟨⟨(ne u).mpr (b u hu).1, (b u hu).2⟩, a u hu⟩
end FR
set_option Elab.async false
set_option linter.all false
set_option maxRecDepth 100000
/-! the last slash of a path; a path without its slashes -/
namespace FR
open PySem PySem.Spec PyProof.Rows L2 TL
theorem rfind_one {x : Str} {c i : Nat} (h : (tl x)[i]? = some c) (h2 : ∀ k, i < k → (tl x)[k]? ≠ some c) : Txt.rfind x ⟨#[c]⟩ = (i : Int) := by
  unfold Txt.rfind
  rcases PySem.StrLaws.last_spec x ⟨#[c]⟩ with ⟨_, hn⟩ | ⟨j, e, hj, hm⟩
  · exact absurd ((PySem.StrLaws.subAt_one x c i).mpr h) (hn i)
  · rw [e]
    have hj' := (PySem.StrLaws.subAt_one x c j).mp hj
    rcases Nat.lt_trichotomy i j with l | l | l
    · exact absurd hj' (h2 j l)
    · rw [l]
    · exact absurd ((PySem.StrLaws.subAt_one x c i).mpr h) (hm i l)
theorem flat_app (ms : List Str) (n : Str) : flat (ms ++ [n]) = flat ms ++ 47 :: tl n := by simp [flat]
theorem rfind_path {ms : List Str} {n : Str} (hn : Nm n) : Txt.rfind (pathOf (ms ++ [n])) (Str.ofString "/") = ((flat ms).length : Int) ∧ cutS (pathOf (ms ++ [n])) none (some ((flat ms).length : Int)) = cat ms := by
  have e : tl (pathOf (ms ++ [n])) = flat ms ++ 47 :: tl n := by rw [pathOf_ne (by simp), tl_cat, flat_app]
  constructor
  · rw [slash]
    refine rfind_one (by rw [e, List.getElem?_append_right (Nat.le_refl _), Nat.sub_self]; rfl) fun k hk h => ?_
    rw [e, List.getElem?_append_right (by omega)] at h
    obtain ⟨j, hj⟩ : ∃ j, k - (flat ms).length = j + 1 := ⟨k - (flat ms).length - 1, by omega⟩
    rw [hj, List.getElem?_cons_succ] at h
    have := hn.lt (List.mem_of_getElem? h)
    omega
  · refine ext_tl ?_
    rw [tl_cutTo, e, tl_cat, List.take_left]
theorem low_of {s : Str} (h0 : tl s ≠ []) (h : ∀ c ∈ tl s, lc c = true) : Txt.isascii s = true ∧ Txt.isalpha s = true ∧ Txt.islower s = true := by
  have ha : Asc s := fun c hc => by have := of_decide_eq_true (h c hc); omega
  refine ⟨isascii_asc ha, ?_, ?_⟩
  · show (decide (s.length > 0) && s.cps.all Unicode.isAlpha) = true
    rw [all_tl, Bool.and_eq_true, decide_eq_true_eq, List.all_eq_true, len_tl]
    exact ⟨List.length_pos_iff.mpr h0, fun c hc => (lc_alpha ⟨c, ha c hc⟩ (h c hc)).1⟩
  · show (s.cps.any Unicode.isLower && !s.cps.any fun c => Unicode.isUpper c || Unicode.isTitle c) = true
    rw [any_tl, any_tl, Bool.and_eq_true, List.any_eq_true, Bool.not_eq_true', List.any_eq_false]
    refine ⟨?_, fun c hc => by have := (lc_alpha ⟨c, ha c hc⟩ (h c hc)).2.2; simpa using this⟩
    obtain ⟨c, hc⟩ := List.exists_mem_of_ne_nil _ h0
    exact ⟨c, hc, (lc_alpha ⟨c, ha c hc⟩ (h c hc)).2.1⟩
theorem path_noSl {ns : List Str} (h : Nms ns) (e : ns ≠ []) : Txt.isascii (noSl (pathOf ns)) = true ∧ Txt.isalpha (noSl (pathOf ns)) = true ∧ Txt.islower (noSl (pathOf ns)) = true := by
  have hm : ∀ c, c ∈ tl (noSl (pathOf ns)) ↔ ∃ s ∈ ns, c ∈ tl s := fun c => by
    rw [tl_noSl, pathOf_ne e, tl_cat, List.mem_filter]
    unfold flat
    rw [List.mem_flatten]
    constructor
    · rintro ⟨⟨l, hl, hc⟩, hne⟩
      obtain ⟨s, hs, rfl⟩ := List.mem_map.mp hl
      rcases List.mem_cons.mp hc with rfl | hc
      · simp at hne
      · exact ⟨s, hs, hc⟩
    · rintro ⟨s, hs, hc⟩
      refine ⟨⟨_, List.mem_map.mpr ⟨s, hs, rfl⟩, List.mem_cons_of_mem _ hc⟩, ?_⟩
      have := (h s hs).lt hc
      simp
      omega
  refine low_of (fun z => ?_) fun c hc => ?_
  · cases ns with
    | nil => exact e rfl
    | cons n r =>
      have h0 := (h n List.mem_cons_self).l0
      rw [len_tl] at h0
      obtain ⟨c, hc⟩ := List.exists_mem_of_length_pos h0
      have := (hm c).mpr ⟨n, List.mem_cons_self, hc⟩
      rw [z] at this
      cases this
  · obtain ⟨s, hs, hc⟩ := (hm c).mp hc
    exact (h s hs).lo c hc
end FR
set_option Elab.async false
set_option linter.all false
set_option maxRecDepth 100000
set_option maxHeartbeats 4000000
/-! bool(x), x == y and x != y of an own class, whatever stands on the right -/
namespace FR
open PySem PySem.Spec PyProof.Rows
theorem call_bool_tru {P : Program} {w : World} {A : Around} {E : Value → Shared → Prop} {s : Shared} {x : Value} {Q : Value → Shared → Prop} (h : wpAny (model P w) A.in1.in1 (truthy x) (fun b s' => Q (.bool b) s') E s) :
    wpAny (model P w) A (call (.type "bool") [x]) Q E s := by
  refine callType_newIn (S := fun A R s => wpAny (model P w) A.in1 (truthy x) (fun b s' => R (.ok (.ret (.bool b))) s') (fun e s' => R (.error e) s') s) PySem.F.called_bool (by decide +kernel) (PySem.F.typeCall_bool_1 x) (PySem.F.newCall_bool_1 x) (fun o => PySem.F.args_object_init_2 o x) PySem.F.entry_bool_new ?_ ?_
  · intro A R s h
    unfold Builtin.«bool.__new__»
    have hsm : someArgs "bool" 0 1 { pos := [x] } = pure [x] := by rfl
    have hty : isType (Value.type "bool") = pure true := by rfl
    have hsub := PySem.F.called_bool.sub
    show wpAny _ _ (do let __do_lift ← isType (Value.type "bool"); _) _ _ _
    rw [hty, pure_bind]
    simp only [hsub, hsm, pure_bind, Bool.not_true, Bool.false_eq_true, if_false]
    refine wpAny_bind (wpAny_mono h (fun b s1 hb => ?_) fun _ _ z => z)
    exact wpAny_pure hb
  · exact wpAny_mono h (fun b s' q => ⟨PySem.typeIs_bool _ _, q⟩) fun _ _ z => z
open L2
open SlX (cmpback run_at)
section
variable {X : Cx} {C g : Addr} {n : Nat} {sp : Sp} {E : XK} {CX : CXT}
/-- bool(x), x of the class at C with an own __bool__ -/
def rBoolI (C : Addr) (sp : Sp) (E : XK) : List V → Hp → VK → Prop := fun xs H Q => ∃ a dx fs, xs = [.ref a] ∧ H a = some (.ins C dx fs) ∧ sp xs H (fun z H' => ∃ b, z = .bl b ∧ Q (.bl b) H') E
theorem call_boolI (hs : PySem.W.findIn X.K (.ref C) "__bool__" = some (some (.ref g))) (hf : PySem.W.isFn X.K (.ref g) = true) (F : FnR X.prog X.w X.K X.mg X.base CX n g sp)
    (hr : Room (n + 2) X.A) (hx : Passes CX X E) : CallR X (.type "bool") (rBoolI C sp E) := by
  intro pins s σ H xs us Q I r h
  obtain ⟨a, dx, fs, rfl, ha, q⟩ := h
  obtain ⟨u, rfl, ru⟩ := r.one
  cases (show u = Value.ref a from ru)
  obtain ⟨od, J⟩ := ins_inst I ha
  obtain ⟨m, hF⟩ := I.fr
  have hr2 : Room n X.A.in1.in1 := (show Room (n + 1) X.A.in1 from Room.in1 hr).in1
  refine call_bool_tru (PySem.W.truthy_K hF I.ok.mod.kin J hs hf (wpAny_mono (wpAny_call (run_at (us := [.ref a]) (ws := [.ref a]) F hr2 I.env0.in1.in1 hx I (.cons rfl .nil) q)) (fun w s' z => ?_) fun _ _ x => x))
  obtain ⟨z', H', I', rz, b, eb, qz⟩ := z
  subst eb
  cases (show w = Value.bool b from rz)
  exact ⟨.bl b, H', I', rfl, qz⟩
/-- not x, as a value -/
def rNotR (r : V → Hp → (Bool → Hp → Prop) → Prop) : V → Hp → VK → Prop := fun x H Q => r x H fun b H' => Q (.bl (!b)) H'
theorem un_not {r : V → Hp → (Bool → Hp → Prop) → Prop} (h : TruR X r) : UnR X (unaryOp .Not) (rNotR r) := by
  intro pins s σ H x v Q I rx q
  unfold unaryOp
  refine wpAny_holding ?_
  show wpAny _ _ (do let b ← truthy v; pure (Value.bool !b)) _ _ _
  refine wpAny_bind (wpAny_mono (h pins s σ H x v _ I rx q) (fun b s' z => ?_) fun _ _ z => z)
  obtain ⟨H', I', q'⟩ := z
  exact wpAny_pure ⟨.bl (!b), H', I', rfl, q'⟩
/-- what stands on the right of a comparison: one of the class, a text, a whole number -/
inductive Right (K : PySem.W.Frag) (H : Hp) (C : Addr) : V → Prop
  | own {b dy : Addr} {gs : List (Str × V)} : H b = some (.ins C dy gs) → Right K H C (.ref b)
  | str (t : Str) : PySem.W.notFirst K C (.type "str") = true → Right K H C (.str t)
  | int (i : Int) : PySem.W.notFirst K C (.type "int") = true → Right K H C (.int i)
theorem right_looks {pins : List (Addr × Obj)} {σ : L2.St} {H : Hp} {s : Shared} {y : V} {u : Value} (I : Inv X pins σ H s) (r : RelV y u) (h : Right X.K H C y) : ∃ tb, PySem.W.Looks (model X.prog X.w) s.heap (typeOf u) tb ∧ PySem.W.notFirst X.K C tb = true := by
  cases h with
  | own e =>
    cases (show u = _ from r)
    obtain ⟨od, J⟩ := ins_inst I e
    exact ⟨_, J.type, by unfold PySem.W.notFirst; simp⟩
  | str t e =>
    obtain ⟨tk, rfl⟩ := (show ∃ tk, u = Value.str t tk from r)
    exact ⟨_, fun A Q E s' _ q => by show wpAny _ _ (pure (Value.type "str")) _ _ _; exact wpAny_pure q, e⟩
  | int i e =>
    obtain ⟨tk, rfl⟩ := (show ∃ tk, u = Value.int i tk from r)
    exact ⟨_, fun A Q E s' _ q => by show wpAny _ _ (pure (Value.type "int")) _ _ _; exact wpAny_pure q, e⟩
def rCmpA (K : PySem.W.Frag) (C : Addr) (sp : Sp) (E : XK) : R2 := fun x y H Q => ∃ a dx fs, x = .ref a ∧ H a = some (.ins C dx fs) ∧ Right K H C y ∧ sp [x, y] H Q E
theorem op_cmpA {op : CmpOp} (hop : ∀ a b, compareOp op a b = richCompare op a b) (hs : PySem.W.findIn X.K (.ref C) (cmpInfo op).2.1 = some (some (.ref g))) (hf : PySem.W.isFn X.K (.ref g) = true) (F : FnR X.prog X.w X.K X.mg X.base CX n g sp)
    (hr : Room n X.A) (hx : Passes CX X E) : OpR X (compareOp op) (rCmpA X.K C sp E) := by
  intro pins s σ H x y v u Q I rx ry h
  obtain ⟨a, dx, fs, rfl, ha, hy, q⟩ := h
  cases (show v = Value.ref a from rx)
  obtain ⟨od, J⟩ := ins_inst I ha
  obtain ⟨tb, hl, hn⟩ := right_looks I ry hy
  obtain ⟨m, hF⟩ := I.fr
  rw [hop]
  refine PySem.W.cmp_K (op := op) (tb := tb) hr.units0 hF I.ok.mod.kin J hl hn hs hf ?_
  refine wpAny_mono (wpAny_call (run_fnR (us := [.ref a, u]) (vs := [.ref a, y]) F hr hx I (.cons rfl (.cons ry .nil)) q)) (fun w s' z => ?_) fun _ _ x => x
  obtain ⟨z', H', I', rz, qz⟩ := z
  exact cmpback rz ⟨z', H', I', rz, qz⟩
def rNeA (K : PySem.W.Frag) (C : Addr) (sp : Sp) (E : XK) : R2 := fun x y H Q => ∃ a dx fs, x = .ref a ∧ H a = some (.ins C dx fs) ∧ Right K H C y ∧ sp [x, y] H (fun z H' => ∃ v, z = .bl v ∧ Q (.bl (!v)) H') E
theorem op_neA (hm : PySem.W.mroIn X.K C (.type "object") = some true) (hne : PySem.W.findIn X.K (.ref C) "__ne__" = some (some (.builtin "object.__ne__"))) (hs : PySem.W.findIn X.K (.ref C) "__eq__" = some (some (.ref g))) (hf : PySem.W.isFn X.K (.ref g) = true)
    (F : FnR X.prog X.w X.K X.mg X.base CX n g sp) (hr : Room (n + 1) X.A) (hx : Passes CX X E) : OpR X (compareOp .NotEq) (rNeA X.K C sp E) := by
  intro pins s σ H x y v u Q I rx ry h
  obtain ⟨a, dx, fs, rfl, ha, hy, q⟩ := h
  cases (show v = Value.ref a from rx)
  obtain ⟨od, J⟩ := ins_inst I ha
  obtain ⟨tb, hl, hn⟩ := right_looks I ry hy
  refine rc_ne_own (tb := tb) hr.units0 hr.in1.units0 I.kIn J hl hn hm hne hs hf ?_
  refine wpAny_mono (wpAny_call (run_at (us := [.ref a, u]) (ws := [.ref a, y]) F hr.in1 I.env0.in1 hx I (.cons rfl (.cons ry .nil)) q)) (fun w s' z => ?_) fun _ _ x => x
  obtain ⟨z', H', I', rz, b', eb, qz⟩ := z
  subst eb
  cases (show w = Value.bool b' from rz)
  exact ⟨b', rfl, .bl (!b'), H', I', rfl, qz⟩
end
/-- isinstance(x, C): x one of the class, or of another kind -/
def rIsA (K : PySem.W.Frag) (C : Addr) : List V → Hp → VK → Prop := fun xs H Q => (∃ a dx fs, xs = [.ref a, .ref C] ∧ H a = some (.ins C dx fs) ∧ Q (.bl true) H) ∨ rIsi K xs H Q
theorem call_isA {X : Cx} {C : Addr} (h : C8.InsC X.K C) : CallR X (.builtin "isinstance") (rIsA X.K C) := by
  intro pins s σ H xs us Q I r q
  rcases q with q | q
  · exact C8.call_isC h pins s σ H xs us Q I r q
  · exact call_isi pins s σ H xs us Q I r q
theorem op_in_seqK {X : Cx} {K : PySem.W.Frag} (h : X.K = K) : OpR X (compareOp .In) (rIn K false) := h ▸ op_in_seq
theorem kit_ofT {K : PySem.W.Frag} {n : String} {S : Addr} {b : Bool} (h2 : PySem.W.isClsIn K S = true) (h3 : PySem.W.typeIn K (.ref S) = some (.type "type")) (h4 : PySem.W.subIn K (.type n) (.ref S) = some b) : PySem.W.kitOne K (.type n) (.ref S) = some b := by
  have e2 : ((PySem.W.clsIn K S).isSome && PySem.W.typeIn K (.ref S) == some (.type "type")) = true := by
    rw [show (PySem.W.clsIn K S).isSome = true from h2, h3] <;> rfl
  unfold PySem.W.kitOne
  rw [if_neg (show ¬ (Value.type n == Value.ref S) = true by simp)]
  show (if ((PySem.W.clsIn K S).isSome && PySem.W.typeIn K (.ref S) == some (.type "type")) = true then PySem.W.subIn K (.type n) (.ref S) else none) = some b
  rw [if_pos e2]
  exact h4
end FR
set_option Elab.async false
set_option linter.all false
set_option maxRecDepth 100000
/-! cls(..) where cls is a local; classmethods -/
namespace FR
open PySem PySem.Spec PyProof.Rows L2 TL
section
variable {X : Cx} {CX : CXT} {k : Nat} {f C : Addr} {fd : FuncData} {ps : List Str} {sp : Sp} {dvs : List V} {ds : List Value} {E : XK} {x : Str} {p pos : Pos} {i : Nat}
def tMakeL (i : Nat) (C : Addr) (sp : Sp) (dvs : List V) (E : XK) (t : TA) : TE := fun σ H Q => σ[i]? = some (some (.ref C)) ∧ tMake C sp dvs E t σ H Q
theorem pe_makeL0 (hv : PE X (.Name x p) (tVar i)) (M : Mk X.K C f) (F : FnOk X.prog X.w X.K X.mg X.base CX k f fd ps sp) (hr : Room (k + 1) X.A) (hb : Binds X.K fd ps ds) (hd : Vals dvs ds) (hx : Passes CX X E) :
    PE X (.Call (.Name x p) [] [] pos) (tMakeL i C sp dvs E tNil) := by
  refine ⟨fun pins s σ H Q I h => ?_⟩
  obtain ⟨h1, h2⟩ := h
  refine wpAny_Call_Name_kw (thn (hv.run pins s σ H (fun v H' => v = .ref C ∧ tMake C sp dvs E tNil σ H' Q) I ⟨_, h1, rfl, h2⟩) fun u s1 hh => ?_)
  obtain ⟨v, H1, I1, r1, rfl, q⟩ := hh
  cases (show u = Value.ref C from r1)
  refine PySem.W.callWith_K0 I1.kIn M.kp ?_
  exact run_make (us := []) (vs := []) M F hr hb hd hx I1 .nil q
theorem pe_makeL {e : Expr} {es : List Expr} {t : TA} (hv : PE X (.Name x p) (tVar i)) (M : Mk X.K C f) (F : FnOk X.prog X.w X.K X.mg X.base CX k f fd ps sp) (hr : Room (k + 1) X.A) (hb : Binds X.K fd ps ds) (hd : Vals dvs ds) (hx : Passes CX X E) (ha : PA X (e :: es) t)
    (he : starEach (e :: es) X.env = (false, eval e X.env) :: starEach es X.env := by rfl) (hpl : (backTo pos (starEach es X.env)).any (·.1) = false := by rfl) :
    PE X (.Call (.Name x p) (e :: es) [] pos) (tMakeL i C sp dvs E t) := by
  refine ⟨fun pins s σ H Q I h => ?_⟩
  obtain ⟨h1, h2⟩ := h
  refine wpAny_Call_Name_kw (thn (hv.run pins s σ H (fun v H' => v = .ref C ∧ tMake C sp dvs E t σ H' Q) I ⟨_, h1, rfl, h2⟩) fun u s1 hh => ?_)
  obtain ⟨v, H1, I1, r1, rfl, q⟩ := hh
  cases (show u = Value.ref C from r1)
  refine PySem.W.callWith_K (h₀ := X.base) I1.ok.mod.kin M.kp (thn (ha.run pos pins s1 σ H1 _ I1 q) fun us s2 hz => ?_) he hpl
  obtain ⟨vs, H2, I2, r2, q2⟩ := hz
  exact ⟨I2.kIn, run_make (us := us) (vs := vs) M F hr hb hd hx I2 r2 q2⟩
end
end FR
set_option Elab.async false
set_option linter.all false
set_option maxRecDepth 100000
/-! x in t, t a tuple of data, x any datum -/
namespace FR
open PySem PySem.Spec PyProof.Rows L2 TL PySem.SeqAt
def rInTD (K : PySem.W.Frag) : R2 := fun x y H Q => ∃ (p : Addr) (d : PyData) (ds : List PyData), y = .ref p ∧ Dp K H x d ∧ Dp K H y (.tuple ds) ∧ SeqAt.shaped d = true ∧ PyData.canLayAll0 ds = true ∧ Q (.bl (ds.any fun z => z.eqv d)) H
theorem op_inTD {X : Cx} (hu : X.A.units + 65 < cLine) : OpR X (compareOp .In) (rInTD X.K) := by
  intro pins s σ H x y v u Q I rx ry h
  obtain ⟨p, d, ds, rfl, hd, hy, s1, c2, q⟩ := h
  cases (show u = Value.ref p from ry)
  obtain ⟨as, r1⟩ := Dp.reads I _ _ _ hd rx
  obtain ⟨bs, r2⟩ := Dp.reads I _ _ _ hy ry
  unfold SeqAt.shaped at s1
  rw [Bool.and_eq_true, decide_eq_true_eq] at s1
  cases r2 with
  | tuple e hc hdt hr =>
    refine in_tupleAt (fun z => (readOf s.heap z).eqv d) ⟨_, e, hc, _, hdt⟩ (items_eqAt hr r1 c2 s1.1 (by have := Nat.min_le_right (PyData.depthAll ds) d.depth; omega)) ⟨.bl (ds.any fun z => z.eqv d), H, I, ?_, q⟩
    show Value.bool _ = Value.bool _
    rw [any_by_data hr c2]
end FR
set_option Elab.async false
set_option linter.all false
set_option maxRecDepth 100000
/-! keyword calls of raising defs -/
namespace FR
open PySem PySem.Spec PyProof.Rows L2 TL
section
variable {X : Cx} {CX : CXT} {k n : Nat} {f : Addr} {fd : FuncData} {ps ks : List Str} {sp : Sp} {E : L2.St → XK} {x : Str} {p pos : Pos} {e : Expr} {es : List Expr} {kws : List Keyword} {t tk : TA} {g : List Value → List Value → List Value} {gV : List V → List V → List V}
theorem run_fnNS {pins : List (Addr × Obj)} {σ : L2.St} {H : Hp} {s : Shared} {Q : VK} {us ws : List Value} {vs zs : List V} (F : FnOk X.prog X.w X.K X.mg X.base CX k f fd ps sp) (hr : Room k X.A) (hb : KBn X.K fd ps n ks g gV) (hx : PassesAt CX X σ (E σ))
    (I : Inv X pins σ H s) (r : Vals vs us) (rz : Vals zs ws) (l1 : vs.length = n) (l2 : zs.length = ks.length) (h : sp (gV vs zs) H Q (E σ)) : wpAny (model X.prog X.w) X.A (call (.ref f) us (ks.zip ws)) (EP X pins σ Q) X.xe s := by
  have r2 := hb.rel r rz
  refine wpAny_call (codeAny_mono (F.run X.A X.stack s H ⟨us, ks.zip ws⟩ (g us ws) (gV vs zs) Q (E σ) hr I.env0 (hb.to s us ws I.kIn (r.length.symm.trans l1) (rz.length.symm.trans l2)) r2 h) fun r s' hq => ?_)
  cases r with
  | error e => exact hx pins H s e s' I hq
  | ok fl =>
    cases fl with
    | ret u => exact I.after hq
    | next => exact False.elim hq
    | brk => exact False.elim hq
    | cont => exact False.elim hq
def tCallNS (n m : Nat) (sp : Sp) (gV : List V → List V → List V) (E : L2.St → XK) (t tk : TA) : TE := fun σ H Q => t σ H fun vs H1 => tk σ H1 fun zs H2 => vs.length = n ∧ zs.length = m ∧ sp (gV vs zs) H2 Q (E σ)
theorem pe_callN0S (F : FnOk X.prog X.w X.K X.mg X.base CX k f fd ps sp) (hr : Room k X.A) (hg : Gl X x) (hm : X.mg x = some (.ref f)) (hk : PySem.W.keepIn X.K (.ref f) = true) (hb : KBn X.K fd ps 0 ks g gV) (hx : ∀ σ, PassesAt CX X σ (E σ)) (hkw : PK X kws tk)
    (hall : (backToKw pos (keywordEach kws X.env)).all (·.1.isSome) = true := by rfl) (hks : (backToKw pos (keywordEach kws X.env)).filterMap (·.1) = ks := by rfl) (hdb : (x == ("__debug__" : Str)) = false := by decide)
    (hpl : ((backTo pos (starEach [] X.env)).any (·.1) || (backToKw pos (keywordEach kws X.env)).any (·.1.isNone)) = false := by rfl) : PE X (.Call (.Name x p) [] kws pos) (tCallNS 0 ks.length sp gV E tNil tk) := ⟨fun pins s σ H Q I h => by
  refine wpAny_Call_Name_kw (ld_glob I hg hm (PySem.W.callWith_KW0 (h₀ := X.base) I.ok.mod.kin hk hall ?_ hpl) hdb)
  refine thn (hkw.run pos pins s σ H _ I h) fun ws s2 hz => ?_
  obtain ⟨zs, H2, I2, rz, l1, l2, q2⟩ := hz
  refine ⟨I2.kIn, ?_⟩
  rw [hks]
  exact run_fnNS (us := []) (vs := []) F hr hb (hx σ) I2 .nil rz rfl l2 q2⟩
end
end FR
set_option Elab.async false
set_option linter.all false
set_option maxRecDepth 100000
/-! t + u and t[lo:hi] of tuples, whichever object stands for them -/
namespace FR
open PySem PySem.Spec PyProof.Rows L2 TL
section
variable {X : Cx}
def rCatK : R2 := fun x y H Q => ∃ a b xs ys, x = .ref a ∧ y = .ref b ∧ H a = some (.tup xs) ∧ H b = some (.tup ys) ∧ xs.length + ys.length ≤ sizeLine ∧ ∀ p H', Keep [] H H' → H' p = some (.tup (xs ++ ys)) → Q (.ref p) H'
theorem op_catK : OpR X (binaryOp .Add) rCatK := fun pins s σ H x y v u Q I rx ry h => by
  obtain ⟨a, b, xs, ys, rfl, rfl, ha, hb, hz, q⟩ := h
  refine op_catA pins s σ H _ _ v u Q I rx ry ⟨a, b, xs, ys, rfl, rfl, .inl (.inl ha), .inl (.inl hb), hz, fun e => q b H Keep.refl (by rw [e]; exact hb), fun _ e => q a H Keep.refl (by rw [e, List.append_nil]; exact ha), fun _ _ p np => q p _ (keep_new np) upd_same⟩
def rSlK : V → Option Int → Option Int → Hp → VK → Prop := fun x lo hi H Q => ∃ a xs, x = .ref a ∧ H a = some (.tup xs) ∧ ∀ p H', Keep [] H H' → H' p = some (.tup (cutV xs lo hi)) → Q (.ref p) H'
theorem sl_tupK : SlR X rSlK := fun pins s σ H x v vl vu lo hi sl Q I rx hs pl pu h => by
  obtain ⟨a, xs, rfl, ha, q⟩ := h
  refine sl_tupA pins s σ H _ v vl vu lo hi sl Q I rx hs pl pu ⟨a, xs, rfl, .inl (.inl ha), fun e => q a H Keep.refl ?_, fun _ p np => q p _ (keep_new np) upd_same⟩
  rw [ha]
  unfold cutV
  rw [e.1, e.2, List.drop_zero, Nat.sub_zero, List.take_length]
end
theorem cutV_mem {xs : List V} {lo hi : Option Int} {x : V} (h : x ∈ cutV xs lo hi) : x ∈ xs := List.mem_of_mem_drop (List.mem_of_mem_take h)
end FR
set_option Elab.async false
set_option linter.all false
set_option maxRecDepth 100000
/-! blocks of a def that are shown by themselves -/
namespace FR
open PySem PySem.Spec PyProof.Rows L2 TL
/-- a block, by what it asks -/
theorem pss_b {X : Cx} {b : List Stmt} {t R : TS} (h : PSs X b t) (k : ∀ D σ H, R D σ H → t D σ H) : PSs X b R := ⟨fun pins s σ H D I q => h.run pins s σ H D I (k D σ H q)⟩
def bdF : Stmt → List Stmt
  | .For _ _ b _ _ => b
  | .While _ b _ _ => b
  | .If _ b _ _ => b
  | .Try b _ _ _ _ => b
  | _ => []
def bdE : Stmt → List Stmt
  | .For _ _ _ b _ => b
  | .While _ _ b _ => b
  | .If _ _ b _ => b
  | .Try _ _ b _ _ => b
  | _ => []
def nth (l : List Stmt) (i : Nat) : Stmt := l.getD i (.Pass ⟨0, 0, 0, 0⟩)
/-- repr, its text kept closed -/
theorem rep_to {K : PySem.W.Frag} {xs : List V} {H : Hp} {Q : VK} {p : Addr} {d : PyData} {tx : Str} (e : d.shown = tx) (h : Dp K H (.ref p) d ∧ d.showable = true ∧ d.hasDict = false ∧ d.depth ≤ 50 ∧ d.shown.length ≤ sizeLine) (hx : xs = [.ref p]) (q : Q (.str tx) H) : rReprD K xs H Q :=
  ⟨p, d, hx, h.1, h.2.1, h.2.2.1, h.2.2.2.1, h.2.2.2.2, by rw [e]; exact q⟩
theorem rep_ex {K : PySem.W.Frag} {H : Hp} {p : Addr} {d : PyData} (_ : Dp K H (.ref p) d ∧ d.showable = true ∧ d.hasDict = false ∧ d.depth ≤ 50 ∧ d.shown.length ≤ sizeLine) : ∃ t, d.shown = t := ⟨_, rfl⟩
theorem same_txt {t : Str} {A B : Prop} (b : B) : if (!decide (V.str t = V.str t)) = true then A else B := by
  rw [decide_eq_true rfl]
  exact b
end FR
set_option Elab.async false
set_option linter.all false
set_option maxRecDepth 100000
set_option maxHeartbeats 4000000
/-! set(x) of any text of seven bits; its len -/
namespace FR
open PySem PySem.Spec PyProof.Rows PySem.Froz
/-- the signs that were met, each once -/
def meet (l : List Str) (cs : List Nat) : List Str := cs.foldl (fun l c => if sing c ∈ l then l else sing c :: l) l
section
variable {P : Program} {w : World} {A : Around} {E : Value → Shared → Prop}
/-- a text that is there already -/
theorem add_there {s : Shared} {a : Addr} {T : String} {D : SD} {l : List Str} {k : Str} {u : Tok} {Q : Bool → Shared → Prop} (at_ : s.heap.get? a = some (sObj T D)) (F : TxOk P w D l) (m : k ∈ l) (room : l.length < scanBound) (q : Q false s) :
    wpAny (model P w) A (setAddHashed a (.str k u) (hashStr w k)) Q E s := by
  obtain ⟨es, ep, t⟩ := D
  have data : (sObj T (es, ep, t)).data = .set es ep t := rfl
  have small : es.size < scanBound := by
    have : es.size = l.length := F.sz
    omega
  have key : (strKind P w).is k (.str k u) = true := is_str k u
  obtain ⟨j, hj⟩ : ∃ j, List.findIdx? (fun e => (strKind P w).is k e.2) es.toList = some j := by
    cases z : List.findIdx? (fun e => (strKind P w).is k e.2) es.toList with
    | some j => exact ⟨j, rfl⟩
    | none =>
      obtain ⟨e, he, y⟩ := (F.mem k).mp m
      have := List.findIdx?_eq_none_iff.mp z e he
      rw [y] at this
      cases this
  unfold setAddHashed setAddHashedIn
  refine wpAny_holding (wpAny_bind (wpAny_setState_of at_ data F.fit ?_))
  dsimp only
  rw [byScan_of rfl small F.el, if_pos rfl]
  unfold setAddByScan
  refine wpAny_bind (wpAny_bind (wpAny_rule (wpAny_bind (wpAny_setScan_of (knd := strKind P w) (k := k) key at_ data F.fit F.el ?_))))
  rw [hj]
  exact wpAny_pure (wpAny_pure q)
/-- the rest of a text's signs into the set -/
theorem upd_signs {R : Result → Shared → Prop} {a it : Addr} (ne : a ≠ it) {T : String} {x : Str} {u : Tok} (hh : A.handled = none) : ∀ (cs : List Nat) (i : Nat) (D : SD) (l : List Str) (s : Shared), x.cps.toList.drop i = cs →
    s.heap.get? a = some (sObj T D) → s.heap.get? it = some (itObj x u i) → TxOk P w D l → l.length + cs.length < scanBound →
    (∀ (D' : SD) (h' : Heap) (tk : Nat), TxOk P w D' (meet l cs) → h'.get? a = some (sObj T D') → (∀ b o, b ≠ a → b ≠ it → s.heap.get? b = some o → h'.get? b = some o) → R (.ok (.ret .none)) { s with heap := h', toks := tk }) →
    codeAny (model P w) A (.builtin "set.update.loop" ⟨[.ref a, .ref it], []⟩) R s
  | [], i, D, l, s, dr, ha, hit, F, room, q => by
    refine codeAny_builtin PyProof.Rows.F.entry_set_update_loop ?_
    rw [Around.under_plainId PyProof.Rows.F.plain_set_update_loop _]
    show wpAny _ A.in1 (pyNext (.ref it) >>= fun _ => _) _ _ s
    refine wpAny_bind (end_x (u := u) (by exact hh) hit (at_end dr) ?_)
    show wpAny _ A.in1 (ret Value.none) _ _ _
    refine wpAny_pure (q D _ _ F (Heap.get?_push_of_some _ (Heap.get?_push_of_some _ (PySem.Heap.get?_update_of_ne _ (Ne.symm ne) ha))) fun b o _ n2 e => ?_)
    exact Heap.get?_push_of_some _ (Heap.get?_push_of_some _ (PySem.Heap.get?_update_of_ne _ (Ne.symm n2) e))
  | c :: r, i, D, l, s, dr, ha, hit, F, room, q => by
    obtain ⟨hx, dr2⟩ := at_of dr
    have room2 : l.length + (r.length + 1) < scanBound := room
    have move : ∀ b o, b ≠ it → s.heap.get? b = some o → (s.heap.update it (fun _ => itObj x u (i + 1))).get? b = some o := fun b o n e => PySem.Heap.get?_update_of_ne _ (Ne.symm n) e
    refine codeAny_builtin PyProof.Rows.F.entry_set_update_loop ?_
    rw [Around.under_plainId PyProof.Rows.F.plain_set_update_loop _]
    show wpAny _ A.in1 (pyNext (.ref it) >>= fun _ => _) _ _ s
    refine wpAny_bind (next_x (u := u) hit hx ?_)
    show wpAny _ A.in1 (holding [Value.str (sing c) s.toks] (setAdd a (.str (sing c) s.toks)) >>= fun _ => _) _ _ _
    refine wpAny_bind (wpAny_holding ?_)
    unfold setAdd
    refine wpAny_holding (wpAny_bind ((strKind P w).pyHash (k := sing c) (is_str _ _) ?_))
    have ha1 := move a _ ne ha
    have hit1 : (s.heap.update it (fun _ => itObj x u (i + 1))).get? it = some (itObj x u (i + 1)) := get_upd _ hit rfl
    by_cases m : sing c ∈ l
    · refine add_there (s := { s with heap := s.heap.update it (fun _ => itObj x u (i + 1)), toks := s.toks + 1 + 1 }) ha1 F m (by omega) ?_
      refine wpAny_pure ⟨plainId_quiet PyProof.Rows.F.plain_set_update_loop _, upd_signs ne hh r (i + 1) D l _ dr2 ha1 hit1 F (by omega) fun D' h' tk F' a' k' => ?_⟩
      exact q D' h' tk (by unfold meet at F' ⊢; rw [List.foldl_cons, if_pos m]; exact F') a' fun b o n1 n2 e => k' b o n1 n2 (move b o n2 e)
    · refine add_x (l := l) (D := D) (s := { s with heap := s.heap.update it (fun _ => itObj x u (i + 1)), toks := s.toks + 1 + 1 }) ha1 F m (by omega) ?_
      have ha2 : ((s.heap.update it (fun _ => itObj x u (i + 1))).update a (fun _ => sObj T (addTx (hashStr w (sing c)) (.str (sing c) s.toks) D))).get? a = some (sObj T (addTx (hashStr w (sing c)) (.str (sing c) s.toks) D)) := get_upd _ ha1 rfl
      have hit2 : ((s.heap.update it (fun _ => itObj x u (i + 1))).update a (fun _ => sObj T (addTx (hashStr w (sing c)) (.str (sing c) s.toks) D))).get? it = some (itObj x u (i + 1)) := PySem.Heap.get?_update_of_ne _ ne hit1
      refine wpAny_pure ⟨plainId_quiet PyProof.Rows.F.plain_set_update_loop _, upd_signs ne hh r (i + 1) _ (sing c :: l) _ dr2 ha2 hit2 (add_ok s.toks F) (by show l.length + 1 + r.length < scanBound; omega) fun D' h' tk F' a' k' => ?_⟩
      exact q D' h' tk (by unfold meet at F' ⊢; rw [List.foldl_cons, if_neg m]; exact F') a' fun b o n1 n2 e => k' b o n1 n2 (PySem.Heap.get?_update_of_ne _ (Ne.symm n1) (move b o n2 e))
theorem call_set_any {s : Shared} {x : Str} {u : Tok} {Q : Value → Shared → Prop} (hh : A.handled = none) (ha : x.cps.all (· < 128) = true) (hb : x.cps.toList.length < scanBound)
    (h : ∀ (h' : Heap) (tk : Nat) (D : SD), h'.get? s.heap.objs.size = some (sObj "set" D) → TxOk P w D (meet [] x.cps.toList) → (∀ b o, b < s.heap.objs.size → s.heap.get? b = some o → h'.get? b = some o) →
      Q (.ref s.heap.objs.size) { s with heap := h', toks := tk }) :
    wpAny (model P w) A (call (.type "set") [.str x u]) Q E s := by
  obtain ⟨c, tl, hmro⟩ := PySem.F.called_set.mro
  have hmade := PySem.F.called_set.made
  have hsub := PySem.F.called_set.sub
  refine wpAny_call (codeAny_of_tree ?_)
  show wpAny _ _ (callAny (.type "set") _) _ _ _
  refine wpAny_pure ⟨Code.quiet_builtin _ (by decide +kernel), codeAny_builtin PySem.F.entry_type_call ?_⟩
  rw [Around.under_plain (weight_type_call_type "set" [.str x u] []) rfl]
  have h1 := PySem.F.called_set.notType
  have h2 := PySem.F.called_set.canCreate
  have hct := PySem.F.typeCall_set_1 (.str x u)
  repeat (any_goals (first | assumption | wp_step))
  let S0 : Bool → Obj := fun led => { cls := .type "set", dict := none, data := .set #[] 0 (.fresh 0 0 led) }
  refine codeAny_mono (code_set_new_1 (.str x u) (E := E) (Q₁ := fun obj s1 => ∃ led : Bool, obj = .ref s.heap.objs.size ∧ s1 = { s with heap := s.heap.push (S0 led) }) fun led => ⟨led, rfl, rfl⟩) fun r s1 hr => ?_
  match r, hr with
  | .error e, hr => exact hr
  | .ok (.ret obj), hr =>
    obtain ⟨led, rfl, rfl⟩ := hr
    have hS : (s.heap.push (S0 led)).get? s.heap.objs.size = some (S0 led) := Heap.get?_push_size _ rfl
    have hT : Shared.TypeIs { s with heap := s.heap.push (S0 led) } (.ref s.heap.objs.size) "set" := ⟨_, hS, rfl⟩
    have hli := PySem.F.called_set.init.lookup
    have hbi := PySem.F.called_set.init.bind (.ref s.heap.objs.size)
    repeat (any_goals (first | assumption | wp_step))
    refine codeAny_mono (codeAny_call_builtin (R := wants (fun r s2 => r = .none ∧ ∃ (h' : Heap) (tk : Nat) (D : SD), s2 = { s with heap := h', toks := tk } ∧ h'.get? s.heap.objs.size = some (sObj "set" D) ∧ TxOk P w D (meet [] x.cps.toList) ∧
      (∀ b o, b < s.heap.objs.size → s.heap.get? b = some o → h'.get? b = some o)) E) PySem.F.called_set.init.plain PySem.F.entry_set_init (check_set_init_1 hT ?_)) fun r2 s2 hr2 => ?_
    · have hs1 := PySem.F.sub_str_set
      have hs2 := PySem.F.sub_str_frozenset
      have hne : (Value.type "str" == Value.type "dict") = false := by decide
      unfold Builtin.«set.__init__» noKeywords Builtin.Frozenset.updateFrom
      generalize hPI : pyIter = PI
      wp_walk
      subst hPI
      refine wpAny_pyIter_ascii ha ?_
      refine wpAny_bind (wpAny_runValue ?_)
      have hsz : (s.heap.push (S0 led)).objs.size = s.heap.objs.size + 1 := Heap.size_push ..
      have hne2 : s.heap.objs.size ≠ (s.heap.push (S0 led)).objs.size := by omega
      have F0 : TxOk P w (#[], 0, .fresh 0 0 led) [] := TxOk.nil (by rfl)
      refine upd_signs (T := "set") (x := x) (u := u) (P := P) (w := w) hne2 (by simp [hh]) x.cps.toList 0 (#[], 0, .fresh 0 0 led) [] _ rfl (Heap.get?_push_of_some _ hS) (Heap.get?_push_size _ rfl) F0 (by simpa using hb) fun D' h' tk F' a' k' => ?_
      show wpAny _ _ (pure ()) _ _ _
      refine wpAny_pure ?_
      show wpAny _ _ (ret Value.none) _ _ _
      refine wpAny_pure ⟨rfl, _, _, D', rfl, a', F', fun b o hb2 e => ?_⟩
      have n1 : b ≠ s.heap.objs.size := Nat.ne_of_lt hb2
      have n2 : b ≠ (s.heap.push (S0 led)).objs.size := by omega
      exact k' b o n1 n2 (Heap.get?_push_of_some _ (Heap.get?_push_of_some _ e))
    · match r2, hr2 with
      | .error e, hr2 => exact hr2
      | .ok (.ret r), hr2 =>
        obtain ⟨rfl, h', tk, D, rfl, g1, g2, g4⟩ := hr2
        repeat (any_goals (first | assumption | wp_step))
        exact h _ _ _ g1 g2 g4
      | .ok .next, hr2 => exact hr2.elim
      | .ok .brk, hr2 => exact hr2.elim
      | .ok .cont, hr2 => exact hr2.elim
  | .ok .next, hr => exact hr.elim
  | .ok .brk, hr => exact hr.elim
  | .ok .cont, hr => exact hr.elim
end
section
open L2
theorem meet_len : ∀ (cs : List Nat) (l : List Str), (meet l cs).length ≤ l.length + cs.length
  | [], l => Nat.le_refl _
  | c :: r, l => by
    unfold meet
    rw [List.foldl_cons]
    have h1 := meet_len r l
    have h2 := meet_len r (sing c :: l)
    unfold meet at h1 h2
    split
    · simp only [List.length_cons] at h1 ⊢; omega
    · simp only [List.length_cons] at h2 ⊢; omega
def tLenSetA (ta : TE) : TE := fun σ H Q => ta σ H fun x H1 => ∃ t : Str, x = .str t ∧ t.cps.all (· < 128) = true ∧ t.cps.toList.length ≤ 4000 ∧ Q (.int ((meet [] t.cps.toList).length : Nat)) H1
/-- len(set(e)), e a text -/
theorem pe_lenSetA {X : Cx} {a : Expr} {ta : TE} {p p2 q pos : Pos} (hg : Gl X "len") (hm : X.mg "len" = none) (hg2 : Gl X "set") (hm2 : X.mg "set" = none) (ha : PE X a ta) (hc : X.calm = true := by rfl)
    (na : starEach [a] X.env = (false, eval a X.env) :: starEach [] X.env := by rfl) : PE X (.Call (.Name "len" p) [.Call (.Name "set" p2) [a] [] q] [] pos) (tLenSetA ta) := by
  refine ⟨fun pins s σ H Q I h => ?_⟩
  refine Call_ (ld_blt I hg hm boot_len ?_)
  refine PyProof.Rows.callWith_builtin1 (PyProof.Rows.args_cons ?_ rfl) rfl rfl
  refine Call_ (ld_blt I hg2 hm2 (show bootBuiltins ("set" : Str) = some (.type "set") by decide +kernel) ?_)
  refine PyProof.Rows.callWith_type1 (PyProof.Rows.args_cons (thn (ha.run pins s σ H _ I h) fun v s1 ⟨x, H1, I1, r1, q1⟩ => PyProof.Rows.args_nil ?_) na) na rfl
  obtain ⟨t, rfl, h1, h3, q1⟩ := q1
  obtain ⟨tk0, rfl⟩ := r1
  refine call_set_any (I1.ok.hd hc) h1 (by unfold scanBound; omega) fun h' tk D g1 F hk => ?_
  refine PyProof.Rows.args_nil ?_
  have I2 : Inv X pins σ H1 { s1 with heap := h', toks := tk } := I1.kept fun b o e => hk b o (Heap.lt_size e) e
  have hn : D.1.size = (meet [] t.cps.toList).length := F.sz
  have hl := meet_len t.cps.toList []
  simp only [List.length_nil, Nat.zero_add] at hl
  exact call_len_set (es := D.1) (ep := D.2.1) (t := D.2.2) g1 ⟨rfl, rfl, rfl⟩ rfl F.fit (by rw [hn]; omega) ⟨.int (meet [] t.cps.toList).length, H1, I2.tok _, ⟨_, by rw [hn]⟩, q1⟩
end
end FR
set_option Elab.async false
set_option linter.all false
set_option maxRecDepth 100000
set_option maxHeartbeats 2000000
/-! a lambda handed to a def, where no repr is under way -/
namespace FR
open PySem PySem.Spec PyProof.Rows L2 TL LamX
section
variable {X : Cx} {σ : L2.St} {H : Hp} {s : Shared} {params : Arguments} {body : Expr} {scope : Scope} {f c' : Addr} {pm ctv : Value} {pins : List (Addr × Obj)}
/-- the lambda's own run, at the around Y -/
theorem lam_run {Y : Around} {outer : List Env} {s1 : Shared} {HZ : Hp} {E : XK} {Q : VK} {tb : TE} {k : Nat} (I : Inv X pins σ H s) (L : LamS X.env.scope scope)
    (hb : bindArgs (PySem.W.kla_fn "<lambda>" (X.env.qual ++ "<lambda>") params body scope (cloFrom X.env.cells scope.names []) pm (.ref c') ctv) ⟨[], []⟩ = pure [])
    (e0 : Env0 X.prog X.w X.K X.mg X.base Y outer s1 HZ) (nl : s1.heap.NoLimit) (hd : Y.handled = none) (hr : Room (k + 1) Y) (un : Un (frs X.stack) [] H HZ s.heap s1.heap)
    (at_ : s1.heap.get? f = some (PySem.W.kla_obj "<lambda>" (X.env.qual ++ "<lambda>") params body scope (cloFrom X.env.cells scope.names []) pm c' ctv)) (hc : HZ c' = some (CodeO c' (X.env.qual ++ "<lambda>")))
    (P : PE (lamCx X Y outer s1 HZ E scope f c') body tb) (ht : tb σ HZ Q) : codeAny (model X.prog X.w) Y (.call (.ref f) ⟨[], []⟩) (CR (L2.CX X.prog X.w) outer X.prog X.w HZ s1 Q E) s1 := by
  obtain ⟨oc, vs, t, g1, g2, g3⟩ := (e0.hok c' _ hc).1
  refine PySem.W.kla_callFunE hr.depth at_ rfl L.co L.gen rfl ⟨c', oc, vs, t, rfl, g1, g2, g3⟩ ?_
  rw [hb]
  refine wpAny_pure (wpAny_newFunctionEnv (fun y hy => (L.own y hy).2) (fun y hy => absurd hy (by simp)) (fun h1 ns same => ⟨nl.fresh _ same, ?_⟩) L.kind)
  have up : ∀ b o, s1.heap.get? b = some o → h1.get? b = some o := fun b o e => same.extBut b o (Nat.ne_of_lt (Heap.lt_size e)) (Heap.get?_push_of_some _ e)
  have J := lam_start2 (E := E) (f := f) (c' := c') (tk := s1.toks + ([] : List (Str × Value)).length) I L e0 hd un ns up
  show codeAny _ _ (.expr body (lamEnv X scope s1.heap.objs.size f c')) _ _
  refine PySem.W.kla_codeExpr (wpAny_mono (P.run [] _ _ HZ Q J ht) (fun v s2 z => ?_) fun _ _ z => z)
  obtain ⟨u, H2, J2, ru, qu⟩ := z
  exact ⟨u, H2, J2.os, J2.bare, J2.base, J2.hok, ru, qu⟩
/-- a() in the def that got the lambda -/
def tAct (f c' : Addr) (q : Str) (i : Nat) (tl : XK → Hp → VK → Prop) (W : WX) : TE := fun σZ HZ Q => σZ[i]? = some (some (.ref f)) ∧ HZ c' = some (CodeO c' q) ∧ tl (WE W σZ) HZ Q
end
/-- a def that is handed a lambda and calls it: TT is what it makes of the lambda's reading -/
def Gives (X : Cx) (N : List Str) (x : Str) (sc : Scope) (g : Addr) (cd : Value) (b : List Stmt) (a : Str) (q : Str) (TT : (XK → Hp → VK → Prop) → Hp → VK → Prop) : Prop :=
  ∀ (f c' : Addr) (s : Shared) (H : Hp) (Q : VK) (tl : XK → Hp → VK → Prop),
    (∀ (W : WX) (pn : List (Addr × Obj)) (xe : Value → Shared → Prop) (p1 p2 : Pos), Takes ((cxOf CX0 X.prog X.w X.K X.mg X.base N x sc g cd X.A X.stack s H fun _ _ _ => False).tr pn xe) W →
      PE ((cxOf CX0 X.prog X.w X.K X.mg X.base N x sc g cd X.A X.stack s H fun _ _ _ => False).tr pn xe) (.Call (.Name a p1) [] [] p2) (tAct f c' q 0 tl W)) →
    Room 1 (X.A.deeper (envOfC x sc s.heap.objs.size g cd)) → H c' = some (CodeO c' q) → TT tl H Q →
    ∃ t, PSs (cxOf CX0 X.prog X.w X.K X.mg X.base N x sc g cd X.A X.stack s H fun _ _ _ => False).nox b t ∧ t { nx := fun _ H' => Q .non H', rt := Q } (L2.start N [.ref f]) H
/-- x(lambda: body) -/
def tGive (T : List (Addr × Str)) (TT : (XK → Hp → VK → Prop) → Hp → VK → Prop) (t : XK → TE) : TE := fun σ H Q => Tabs T H ∧ ∀ H1, ExtN H H1 → Tabs T H1 → TT (fun E H' Q' => t E σ H' Q') H1 Q
section
variable {X : Cx}
theorem pe_give {T : List (Addr × Str)} {TT : (XK → Hp → VK → Prop) → Hp → VK → Prop} {x a : Str} {g c P : Addr} {k : Nat} {st : Stmt} {fd : FuncData} {N : List Str} {params : Arguments} {body : Expr} {scope : Scope} {t : XK → TE} {p lp pos : Pos}
    (hgd : X.A.guards = some []) (hr : Room (k + 2) X.A) (F : Fun X.K x x st g fd) (B : Binds X.K fd [a] []) (S : FnScope N [a] (defScope st)) (hN : N[0]? = some a) (hv : Vis (defScope st) a) (hg : Gl X x) (hm : X.mg x = some (.ref g)) (hk : PySem.W.keepIn X.K (.ref g) = true)
    (G : ∀ cd, Gives X N x (defScope st) g cd (defBody st) a (X.env.qual ++ "<lambda>") TT)
    (TB : TabB X.base X.mg c P) (hcode : X.env.code = .ref c) (hT : (P, X.env.qual ++ "<lambda>") ∈ T) (hu : ∀ p ∈ T, p.1 = P → p.2 = X.env.qual ++ "<lambda>") (L : LamS X.env.scope scope) (hdef : defaultsOf params X.env = ([], []))
    (hb : ∀ (q : Str) (cl : List (Str × Addr)) (pm cv ctv : Value), bindArgs (PySem.W.kla_fn "<lambda>" q params body scope cl pm cv ctv) ⟨[], []⟩ = pure [])
    (hbody : ∀ (Y : Around) (outer : List Env) (s : Shared) (H : Hp) (E : XK) (f c' : Addr), Y.guards = some [] → Room k (Y.deeper (lamEnv X scope s.heap.objs.size f c')) → PE (lamCx X Y outer s H E scope f c') body (t E))
    (hdb : (x == ("__debug__" : Str)) = false := by decide) (hda : (a == ("__debug__" : Str)) = false := by decide) (hca : (a == ("__classdict__" : Str)) = false := by decide) :
    PE X (.Call (.Name x p) [.Lambda params body scope lp] [] pos) (tGive T TT t) := by
  refine ⟨fun pins s σ H Q I ⟨ht, h⟩ => wpAny_Call_Name_kw (ld_glob I hg hm (PySem.W.callWith_K (h₀ := X.base) I.ok.mod.kin hk ?_ (by rfl) (by rfl)) hdb)⟩
  show wpAny _ _ (spliced ((false, eval (.Lambda params body scope lp) X.env) :: backTo pos (starEach [] X.env))) _ _ s
  refine Calls.spliced_cons (lam_make2 I TB hcode hT hu ht hdef (L.has I.ok) fun f c' pm ctv H1 s1 I1 eN T1 hf hfn hfr hco => Calls.spliced_nil ⟨I1.kIn, ?_⟩)
  obtain ⟨oc, od, kV, doc, pm', an, cdv, ct, osl, rfl, lk, hcd⟩ := F.ex
  have rc : codeAny (model X.prog X.w) X.A (.call (.ref g) ⟨[.ref f], []⟩) (CR CX0 X.stack X.prog X.w H1 s1 Q fun _ _ _ => False) s1 := by
    refine run_ofS (N := N) (ps := [a]) (us := [.ref f]) (vs := [.ref f]) lk hcd S hr I1.env0 (B s1 [.ref f] I1.kIn rfl) (.cons rfl .nil) rfl fun hr1 => ?_
    have hr0 : Room 1 (X.A.deeper (envOfC x (defScope st) s1.heap.objs.size g cdv)) := hr1.mono (by omega)
    have act : ∀ (W : WX) (pn : List (Addr × Obj)) (xe : Value → Shared → Prop) (p1 p2 : Pos), Takes ((cxOf CX0 X.prog X.w X.K X.mg X.base N x (defScope st) g cdv X.A X.stack s1 H1 fun _ _ _ => False).tr pn xe) W →
        PE ((cxOf CX0 X.prog X.w X.K X.mg X.base N x (defScope st) g cdv X.A X.stack s1 H1 fun _ _ _ => False).tr pn xe) (.Call (.Name a p1) [] [] p2) (tAct f c' (X.env.qual ++ "<lambda>") 0 (fun E H' Q' => t E σ H' Q') W) := by
      intro W pn xe p1 p2 tk
      refine ⟨fun pinsZ sZ σZ HZ QZ IZ hz => ?_⟩
      obtain ⟨z1, z2, z3⟩ := hz
      refine wpAny_Call_Name_kw (thn ((pe_var (pos := p1) (i := 0) hN hv hda hca).run pinsZ sZ σZ HZ (fun v H2 => v = .ref f ∧ H2 = HZ) IZ ⟨.ref f, z1, rfl, rfl⟩) fun u s2 ⟨v, H2, I2, r2, q2⟩ => ?_)
      obtain ⟨rfl, rfl⟩ := q2
      obtain rfl : u = Value.ref f := r2
      have stay := I2.base.keep f _ hf hfn hfr (fun z => nomatch (show f ∈ ([] : List Addr) from z))
      refine PySem.W.callWith_F0 ⟨_, _, _, _, stay⟩ ?_
      have run2 : codeAny (model X.prog X.w) (X.A.deeper (envOfC x (defScope st) s1.heap.objs.size g cdv)) (.call (.ref f) ⟨[], []⟩) (CR (L2.CX X.prog X.w) (envOfC x (defScope st) s1.heap.objs.size g cdv :: X.stack) X.prog X.w H2 s2 QZ (WE W σZ)) s2 :=
        lam_run (X := X) (k := k) (tb := t (WE W σZ)) I1 L (hb _ _ _ _ _) I2.env0 I2.nolimit hr1.hd hr1 I2.base stay z2 (hbody _ _ s2 H2 (WE W σZ) f c' hgd (hr1.deeper _)) z3
      refine wpAny_call (codeAny_mono run2 fun r s3 hq => ?_)
      cases r with
      | error e => exact passAt tk σZ pinsZ H2 s2 e s3 I2 hq
      | ok fl =>
        cases fl with
        | ret u => exact I2.after hq
        | next => exact False.elim hq
        | brk => exact False.elim hq
        | cont => exact False.elim hq
    obtain ⟨t', a1, a2⟩ := G cdv f c' s1 H1 Q (fun E H' Q' => t E σ H' Q') act hr0 hco (h H1 eN T1)
    exact ⟨t', a1.nox, a2⟩
  refine wpAny_call (codeAny_mono rc fun r s2 hq => ?_)
  cases r with
  | error e => exact (show False from hq).elim
  | ok fl =>
    cases fl with
    | ret u => exact I1.after hq
    | next => exact False.elim hq
    | brk => exact False.elim hq
    | cont => exact False.elim hq
end
end FR
set_option Elab.async false
set_option linter.all false
set_option maxRecDepth 100000
set_option maxHeartbeats 4000000
/-! own operators with anything on the right; repr of any datum; what a raising call lets out; keys of a dict of the module -/
namespace FR
open PySem PySem.Spec PyProof.Rows L2 TL
section
variable {X : Cx}
theorem tk0 {X : Cx} : Takes X (fun _ _ _ _ => False) := fun u s' h => by
  obtain ⟨_, _, _, _, _, _, _, _, _, _, _, _, _, _, _, _, z⟩ := h
  exact z.elim
/-- nothing is let out -/
theorem px0 : Passes (L2.CX X.prog X.w) X (fun _ _ _ => False) := passes_call tk0 fun _ _ _ _ h => h
/-- let out of the def itself -/
theorem pxE {E : XK} (hs : X.stack = X.env :: X.outer) (hf : X.env.frame = some X.env.locals) (hex : X.ex = []) {E1 : Value → Shared → Prop}
    (hx : X.xe = fun e s' => wpAny (model X.prog X.w) X.A (leaving X.env e) (fun _ s'' => L2.CX X.prog X.w X.outer X.H_0 X.s_0 E e s'') E1 s') : Passes (L2.CX X.prog X.w) X E := passes_call (takes_of hs hf hex hx) fun _ _ _ _ h => h
def known (T : String) (nm : String) : Bool := (fastLookup T (dunder nm)).isSome && (fastLookup T (dunderR nm)).isSome
theorem fills_any {T nm : String} (h : known T nm = true) : ∃ r z, fillsNumberSlot (.type T) nm = pure r ∧ typeLookup (.type T) (dunderR nm) = pure z := by
  unfold known at h
  rw [Bool.and_eq_true] at h
  obtain ⟨a, ha⟩ := Option.isSome_iff_exists.mp h.1
  obtain ⟨b, hb⟩ := Option.isSome_iff_exists.mp h.2
  have e1 : typeLookup (.type T) (dunder nm) = pure a := by rw [typeLookup_type, builtinLookup_eq_fast, ha]
  have e2 : typeLookup (.type T) (dunderR nm) = pure b := by rw [typeLookup_type, builtinLookup_eq_fast, hb]
  unfold fillsNumberSlot
  simp only [e1, e2, pure_bind]
  exact ⟨_, _, rfl, rfl⟩
variable {C g : Addr} {n : Nat} {sp : Sp} {E : XK} {CX : CXT}
/-- x op y, x of the class at C; its def lets something out -/
def rBinX (K : PySem.W.Frag) (C : Addr) (nm : String) (sp : Sp) (E : XK) : R2 := fun x y H Q => ∃ a dx fs, x = .ref a ∧ H a = some (.ins C dx fs) ∧
  ((∃ b dy gs, y = .ref b ∧ H b = some (.ins C dy gs) ∧ sp [x, y] H Q E) ∨ ∃ T, TyX K H y (.type T) ∧ known T nm = true ∧ PySem.W.subIn K (.type T) (.ref C) = some false ∧ sp [x, y] H (fun _ _ => False) E)
theorem op_binX {op : Operator} (hc : PySem.W.selfFirst X.K C = true) (hs : PySem.W.findIn X.K (.ref C) (PySem.dunder op.info.2) = some (some (.ref g))) (hR : PySem.W.findIn X.K (.ref C) (PySem.dunderR op.info.2) = some none) (hf : PySem.W.isFn X.K (.ref g) = true)
    (F : FnR X.prog X.w X.K X.mg X.base CX n g sp) (hr : Room n X.A) (hx : Passes CX X E) : OpR X (binaryOp op) (rBinX X.K C op.info.2 sp E) := by
  intro pins s σ H x y v u Q I rx ry h
  obtain ⟨a, dx, fs, rfl, ha, ⟨b, dy, gs, rfl, hb, q⟩ | ⟨T, ty, kn, sub, q⟩⟩ := h
  · exact op_binI hc hs hf F hr hx pins s σ H _ _ v u Q I rx ry ⟨a, dx, fs, b, dy, gs, rfl, rfl, ha, hb, q⟩
  cases (show v = Value.ref a from rx)
  obtain ⟨od, J⟩ := ins_inst I ha
  obtain ⟨Pk, kx, hP, _⟩ := L2.kit_of I ry ty
  have KI := I.kIn
  have look := kx.ty (model X.prog X.w) s.heap KI hP
  obtain ⟨cd, hcd, hm⟩ := PySem.W.any_some hc
  obtain ⟨rest, hm⟩ : ∃ rest, cd.mro = .ref C :: rest := by
    cases z : cd.mro with
    | nil => rw [z] at hm; cases hm
    | cons c r => rw [z, List.head?_cons] at hm; cases (beq_iff_eq.mp hm); exact ⟨r, rfl⟩
  obtain ⟨r, z0, hfill, hz0⟩ := fills_any kn
  have run : wpAny (model X.prog X.w) X.A (callSpecial? (.ref a) (PySem.dunder op.info.2) [u]) (fun _ _ => False) X.xe s := by
    refine PySem.W.special_fn KI J hs (beq_iff_eq.mp hf) (wpAny_mono (wpAny_call (run_fnR (us := [.ref a, u]) (vs := [.ref a, y]) F hr hx I (.cons rfl (.cons ry .nil)) q)) (fun w s' z => ?_) fun _ _ z => z)
    obtain ⟨_, _, _, _, z⟩ := z
    exact z
  have fin : ∀ {α : Type} (f : Option Value → Sem α) (Q' : α → Shared → Prop), wpAny (model X.prog X.w) X.A (tryMethod (.ref a) (PySem.dunder op.info.2) u >>= f) Q' X.xe s := fun f Q' => by
    refine wpAny_bind ?_
    unfold tryMethod
    exact wpAny_bind (wpAny_mono run (fun _ _ z => z.elim) fun _ _ z => z)
  unfold binaryOp
  refine wpAny_holding (wpAny_bind ?_)
  show wpAny _ _ (binaryOp1 op.info.2 (.ref a) u) _ _ _
  generalize op.info.2 = nm at *
  unfold binaryOp1
  refine wpAny_bind (J.type.here (wpAny_bind (look.here (wpAny_bind ((PySem.W.fills_K KI hcd hm hs).here ?_)))))
  have ne : (Value.ref C == Value.type T) = false := by simp
  simp only [ne, Bool.false_eq_true, if_false]
  rw [hfill]
  refine wpAny_bind (wpAny_pure ?_)
  cases r with
  | false =>
    simp only [Bool.and_false, Bool.false_eq_true, if_false, Bool.false_and, if_true, pure_bind]
    exact fin _ _
  | true =>
    simp only [Bool.and_self, Bool.not_false, if_true]
    refine wpAny_bind ((PySem.W.looks_subIn KI sub).here ?_)
    simp only [Bool.false_eq_true, if_false, Bool.not_false, Bool.and_self, if_true, pure_bind]
    refine wpAny_bind ?_
    unfold numberSlotInPython
    refine wpAny_bind ((PySem.W.looks_findIn KI hs).here ?_)
    refine wpAny_bind ?_
    refine wpAny_pure ?_
    refine wpAny_bind ((PySem.W.looks_findIn KI hR).here ?_)
    refine wpAny_bind (wpAny_pure ?_)
    simp only [Bool.or_false, if_true, Bool.true_or]
    refine wpAny_pure ?_
    simp only [if_true, pure_bind, Bool.not_false]
    rw [hz0]
    exact wpAny_bind (wpAny_pure (fin _ _))
/-- x op y (a comparison), x of the class at C, anything on the right -/
def rCmpX (K : PySem.W.Frag) (C : Addr) (sp : Sp) (E : XK) : R2 := fun x y H Q => ∃ a dx fs t, x = .ref a ∧ H a = some (.ins C dx fs) ∧ TyX K H y t ∧ PySem.W.notFirst K C t = true ∧ sp [x, y] H Q E
theorem op_cmpX {op : CmpOp} (hop : ∀ a b, compareOp op a b = richCompare op a b) (hs : PySem.W.findIn X.K (.ref C) (cmpInfo op).2.1 = some (some (.ref g))) (hf : PySem.W.isFn X.K (.ref g) = true) (F : FnR X.prog X.w X.K X.mg X.base CX n g sp)
    (hr : Room n X.A) (hx : Passes CX X E) : OpR X (compareOp op) (rCmpX X.K C sp E) := by
  intro pins s σ H x y v u Q I rx ry h
  obtain ⟨a, dx, fs, t, rfl, ha, ty, hn, q⟩ := h
  cases (show v = Value.ref a from rx)
  obtain ⟨od, J⟩ := ins_inst I ha
  obtain ⟨Pk, kx, hP, _⟩ := L2.kit_of I ry ty
  obtain ⟨m, hF⟩ := I.fr
  rw [hop]
  refine PySem.W.cmp_K (op := op) (tb := t) hr.units0 hF I.ok.mod.kin J (kx.ty _ _ I.kIn hP) hn hs hf ?_
  refine wpAny_mono (wpAny_call (run_fnR (us := [.ref a, u]) (vs := [.ref a, y]) F hr hx I (.cons rfl (.cons ry .nil)) q)) (fun w s' z => ?_) fun _ _ x => x
  obtain ⟨z', H', I', rz, qz⟩ := z
  exact SlX.cmpback rz ⟨z', H', I', rz, qz⟩
end
/-! ### repr -/
section
variable {X : Cx}
/-- repr of data, of a scalar too -/
def rReprS : List V → Hp → VK → Prop := fun xs H Q => rReprQ xs H Q ∨ (∃ i : Int, xs = [.int i] ∧ i.natAbs.log2 < 1920 ∧ Q (.str (PyData.shown (.int i))) H) ∨ (∃ b : Bool, xs = [.bl b] ∧ Q (.str (PyData.shown (.bool b))) H) ∨ (xs = [.non] ∧ Q (.str (PyData.shown .none)) H) ∨
  ∃ t : Str, xs = [.str t] ∧ (PyData.shown (.str t)).length ≤ sizeLine ∧ Q (.str (PyData.shown (.str t))) H
theorem call_reprX (hgd : X.A.guards = some []) (hu : X.A.units + 65 < cLine) : CallR X (.builtin "repr") rReprS := fun pins s σ H xs us Q I r h => by
  have fin : ∀ (t : Str) (u : Tok), Q (.str t) H → EP X pins σ Q (.str t u) { s with toks := s.toks + 1 } := fun t u q => ⟨.str t, H, I.tok _, ⟨_, rfl⟩, q⟩
  rcases h with h | ⟨i, rfl, hi, q⟩ | ⟨b, rfl, q⟩ | ⟨rfl, q⟩ | ⟨t, rfl, ht, q⟩
  · exact call_reprQ hgd hu pins s σ H xs us Q I r h
  · obtain ⟨u, rfl, k, rfl⟩ := r.one
    exact PySem.P.repr_of_int hi (fin _ _ q)
  · obtain ⟨u, rfl, ru⟩ := r.one
    cases (show u = Value.bool b from ru)
    exact PySem.P.repr_of_bool (fin _ _ (by cases b <;> exact q))
  · obtain ⟨u, rfl, ru⟩ := r.one
    cases (show u = Value.none from ru)
    exact PySem.P.repr_of_none (fin _ _ q)
  · obtain ⟨u, rfl, k, rfl⟩ := r.one
    exact PySem.P.repr_of_str (fin _ _ q) ht
end
/-! ### the keys of a dict of the module -/
theorem keys_miss {z : Str} : ∀ {ks : List Str} {l : List DictEntry}, Vals (ks.map V.str) (l.map (·.key)) → z ∉ ks → l.find? (·.key.isStr z) = none ∧ l.any (·.refKey) = false
  | [], l, h, _ => by
    cases l with
    | nil => exact ⟨rfl, rfl⟩
    | cons e r => cases h
  | k :: ks, l, h, hz => by
    cases l with
    | nil => cases h
    | cons e r =>
      cases h with
      | cons a b =>
        obtain ⟨t, ht⟩ := (show ∃ t, e.key = Value.str k t from a)
        obtain ⟨h1, h2⟩ := keys_miss b fun m => hz (List.mem_cons_of_mem _ m)
        have nk : k ≠ z := fun e => hz (by rw [e]; exact List.mem_cons_self)
        refine ⟨?_, ?_⟩
        · rw [List.find?_cons_of_neg (by rw [ht]; simp [Value.isStr, nk])]
          exact h1
        · rw [List.any_cons, h2]
          simp [DictEntry.refKey, ht]
theorem ns_miss {K : PySem.W.Frag} {d : Addr} {c : Value} {od : Option Addr} {es : Array DictEntry} {ep : Nat} {sl : Array (Option Value)} {ks : List Str} {z : Str} (hl : K.lookup d = some ⟨c, od, .dict es ep, sl⟩) (hv : Vals (ks.map V.str) (es.toList.map (·.key))) (hz : z ∉ ks) : PySem.W.nsIn K d z = some none := by
  obtain ⟨h1, h2⟩ := keys_miss hv hz
  unfold PySem.W.nsIn
  rw [hl]
  simp only [h1, h2, Bool.false_eq_true, if_false]
end FR
set_option Elab.async false
set_option linter.all false
set_option maxRecDepth 100000
/-! «x in texts» for anything; a list of anything beside the empty list -/
namespace FR
open PySem PySem.Spec PyProof.Rows L2 TL PySem.SeqAt
section
variable {X : Cx}
/-- what «v in the texts ws» gives -/
def InT (K : PySem.W.Frag) (H : Hp) (v : V) (ws : List Str) (r : Bool) : Prop := (flatV v = true ∧ inV v (ws.map V.str) = r) ∨ (∃ d, Dp K H v d ∧ SeqAt.shaped d = true ∧ SeqAt.shaped (.list (ws.map .str)) = true ∧ ((ws.map PyData.str).any fun z => PyData.eqv z d) = r) ∨
  ∃ (a : Addr) (kvs : List (Key × V)), v = .ref a ∧ H a = some (.dK kvs) ∧ false = r
def rInT (K : PySem.W.Frag) : R2 := fun x y H Q => ∃ (p : Addr) (ws : List Str) (r : Bool), y = .ref p ∧ SqL K H p (ws.map V.str) ∧ InT K H x ws r ∧ Q (.bl r) H
theorem op_inT (hu : X.A.units + 65 < cLine) : OpR X (compareOp .In) (rInT X.K) := by
  intro pins s σ H x y v u Q I rx ry h
  obtain ⟨p, ws, r, rfl, hp, ⟨hf, rfl⟩ | ⟨d, hd, s1, s2, rfl⟩ | ⟨a, kvs, rfl, ha, rfl⟩, q⟩ := h
  · exact op_in_seq pins s σ H x _ v u Q I rx ry ⟨p, _, rfl, .inl hp, hf, flat_strs ws, q⟩
  · exact op_inD hu pins s σ H x _ v u Q I rx ry ⟨d, _, hd, .lst hp (dpAll_strs ws), s1, s2, q⟩
  · cases (show v = Value.ref a from rx)
    cases (show u = Value.ref p from ry)
    obtain ⟨_, _, vs, kv, o, es, ep, e, hx, hd, _, _, _⟩ := (show ObjOk X.prog X.w H s.heap a (.dK _) from I.hok _ _ ha)
    obtain ⟨its, rv, hl, _⟩ := I.list hp
    refine in_listAt (fun _ => false) hl.isList (fun z hz => ?_) ⟨.bl false, H, I, ?_, q⟩
    · obtain ⟨x, t, rfl⟩ := vals_strs rv z (by simpa using hz)
      exact eqAt_str_dict x t e hx.1 hd (by show X.A.units + 1 < cLine; omega)
    · show Value.bool _ = Value.bool false
      simp
def rNil (K : PySem.W.Frag) (neg : Bool) : R2 := fun x y H Q => ∃ (p q : Addr) (xs : List V), x = .ref p ∧ y = .ref q ∧ SqL K H p xs ∧ SqL K H q [] ∧ Q (.bl (neg != xs.isEmpty)) H
theorem op_eqNil (hu : X.A.units + 65 < cLine) : OpR X (compareOp .Eq) (rNil X.K false) := by
  intro pins s σ H x y v u Q I rx ry h
  obtain ⟨p, q, xs, rfl, rfl, hp, hq, z⟩ := h
  cases (show v = Value.ref p from rx)
  cases (show u = Value.ref q from ry)
  obtain ⟨its, rv, hl, _⟩ := I.list hp
  obtain ⟨its2, rv2, hl2, _⟩ := I.list hq
  cases rv2
  cases rv with
  | nil => exact SeqAt.eq_listAt (e := fun _ => true) hl.isList hl2.isList rfl (by omega) (fun j h1 _ => absurd h1 (by simp)) ⟨.bl true, H, I, rfl, z⟩
  | cons a b => exact SeqAt.eq_list_lengthsAt hl.isList hl2.isList (by simp) (by omega) ⟨.bl false, H, I, rfl, z⟩
theorem op_neNil (hu : X.A.units + 65 < cLine) : OpR X (compareOp .NotEq) (rNil X.K true) := by
  intro pins s σ H x y v u Q I rx ry h
  obtain ⟨p, q, xs, rfl, rfl, hp, hq, z⟩ := h
  cases (show v = Value.ref p from rx)
  cases (show u = Value.ref q from ry)
  obtain ⟨its, rv, hl, _⟩ := I.list hp
  obtain ⟨its2, rv2, hl2, _⟩ := I.list hq
  cases rv2
  cases rv with
  | nil => exact RcNeAt.lists (e := fun _ => true) hl.isList hl2.isList rfl (by omega) (fun j h1 _ => absurd h1 (by simp)) X.prog X.w _ _ ⟨.bl false, H, I, rfl, z⟩
  | cons a b => exact RcNeAt.lists_lengths hl.isList hl2.isList (by simp) (by omega) X.prog X.w _ _ ⟨.bl true, H, I, rfl, z⟩
end
end FR
set_option Elab.async false
set_option linter.all false
set_option maxRecDepth 100000
set_option maxHeartbeats 2000000
/-! the end of a row whose defs make lambdas, for a promise that knows that no repr is under way -/
namespace FR
open PySem PySem.Spec PyProof.Rows L2 TL LamX
/-- the script (where it is not the module's) and the empty tables -/
def hStart (a : Addr) (o : HO) (own : Bool) (ts : List Addr) : Hp := fun b => if b ∈ ts then some (.tbl #[]) else if b = a ∧ own = true then some o else none
section
variable {a : Addr} {o : HO} {own : Bool} {ts : List Addr}
theorem hStart.tab {b : Addr} (h : b ∈ ts) : hStart a o own ts b = some (.tbl #[]) := if_pos h
theorem hStart.script (h : a ∉ ts) (w : own = true) : hStart a o own ts a = some o := (if_neg h).trans (if_pos ⟨rfl, w⟩)
theorem hStart.what {b : Addr} {u : HO} (h : hStart a o own ts b = some u) : (b ∈ ts ∧ u = .tbl #[]) ∨ (b ∉ ts ∧ b = a ∧ own = true ∧ u = o) := by
  unfold hStart at h
  split at h
  · rename_i m
    exact .inl ⟨m, (Option.some.inj h).symm⟩
  · rename_i m
    split at h
    · rename_i e
      exact .inr ⟨m, e.1, e.2, (Option.some.inj h).symm⟩
    · cases h
end
abbrev oTab : Obj := { cls := .none, data := .fields #[] }
theorem law_callTG {P : Program} {w : World} {K : PySem.W.Frag} {mg mb : Str → Option Value} {k : Nat} {fa a : Addr} {cs : List (Addr × Addr)} {sp : Sp} {s1 : Shared} {vs : List Value} {ns : List Int}
    (KX : K.In s1.heap) (hns : s1.heap.Ns mainGlobals mg) (hb : s1.heap.Ns builtinsNs mb) (hbb : ∀ x : Str, x ≠ "__name__" → mb x = bootBuiltins x) (hlim : s1.heap.NoLimit) (hg : s1.gens = #[])
    (hT : ∀ p ∈ cs, s1.heap.get? p.2 = some oTab) (nT : ∀ p ∈ cs, K.lookup p.2 = none) (C : ∀ p ∈ cs, PySem.W.CodeHd s1.heap p.1 p.2)
    (hbm : ∃ (bm : Addr) (ob : Obj), mg "__builtins__" = some (.ref bm) ∧ bm ≠ builtinsNs ∧ s1.heap.get? bm = some ob ∧ ob.cls = .type "module" ∧ ob.dict = some builtinsNs ∧ ob.data = .plain)
    (ha : s1.heap.get? a = some { cls := .type "list", data := .seq vs.toArray }) (hi : IntsAre vs ns) (hl : ns.length ≤ sizeLine) (hr : Room k callerA)
    (F : ∀ base : Heap, K.In base → base.Ns mainGlobals mg → (∀ p ∈ cs, TabB base mg p.1 p.2) → FnG P w K mg base CX0 k fa sp)
    (hsp : ∀ H : Hp, (∀ p ∈ cs, H p.2 = some (.tbl #[])) → SqL K H a (ns.map V.int) → sp [.ref a] H (fun v _ => v = .bl true) fun _ _ _ => False) :
    codeAny (model P w) callerA (.call (.ref fa) ⟨[.ref a], []⟩) (fun r s' => r = .ok (.ret (.bool true)) ∧ OldK s1.heap s'.heap ∧ s'.os = s1.os ∧ AllBare s'.gens) s1 := by
  have rv := vals_ints hi
  have lv := hi.length
  have isT : ∀ b ∈ cs.map (·.2), s1.heap.get? b = some oTab := fun b m => by
    obtain ⟨p, hp, rfl⟩ := List.mem_map.mp m
    exact hT p hp
  have aT : a ∉ cs.map (·.2) := fun m => by
    have := isT a m
    rw [ha] at this
    cases congrArg Obj.data (Option.some.inj this)
  obtain ⟨own, how⟩ : ∃ own, own = (K.lookup a).isNone := ⟨_, rfl⟩
  obtain ⟨H, hH⟩ : ∃ H, hStart a (.frz { cls := .type "list", data := .seq vs.toArray } (.lst (ns.map V.int))) own (cs.map (·.2)) = H := ⟨_, rfl⟩
  have tabs : ∀ b ∈ cs.map (·.2), H b = some (.tbl #[]) := fun b m => by rw [← hH]; exact hStart.tab m
  have what : ∀ {b : Addr} {u : HO}, H b = some u → (b ∈ cs.map (·.2) ∧ u = .tbl #[]) ∨ (b ∉ cs.map (·.2) ∧ b = a ∧ own = true ∧ u = .frz { cls := .type "list", data := .seq vs.toArray } (.lst (ns.map V.int))) := fun {b u} h => hStart.what (by rw [hH]; exact h)
  have hS : SqL K H a (ns.map V.int) := by
    cases hk : K.lookup a with
    | some o =>
      cases ha.symm.trans (KX a o hk)
      exact .inr ⟨_, vs.toArray, _, hk, rfl, rfl, rfl, by rw [List.size_toArray, lv]; exact hl, by simpa using rv⟩
    | none => exact .inl (.inr ⟨_, by rw [← hH]; exact hStart.script aT (by rw [how, hk]; rfl)⟩)
  have hok : HOk P w H s1.heap := fun b u z => by
    rcases what z with ⟨m, rfl⟩ | ⟨_, rfl, _, rfl⟩
    · exact isT b m
    · exact ⟨ha, by rw [List.length_map]; exact hl, vs, _, rv, ha⟩
  have apart : ∀ {b : Addr} {ob : Obj}, s1.heap.get? b = some ob → (∀ l n, ob.data ≠ .seq l n) → ob.data ≠ .fields #[] → H b = none := fun {b ob} e n1 n2 => by
    cases q : H b with
    | none => rfl
    | some u =>
      rcases what q with ⟨m, _⟩ | ⟨_, rfl, _, _⟩
      · cases (isT b m).symm.trans e
        exact (n2 rfl).elim
      · cases ha.symm.trans e
        exact (n1 _ _ rfl).elim
  have isD : ∀ {b : Addr} {ob : Obj} {es : Array DictEntry} {ep : Nat}, s1.heap.get? b = some ob → ob.data = .dict es ep → H b = none := fun e d => apart e (by rw [d]; exact fun _ _ z => nomatch z) (by rw [d]; exact fun z => nomatch z)
  have nsH : ∀ {b : Addr} {m : Str → Option Value}, s1.heap.Ns b m → (hidT s1.heap H).Ns b m := fun ⟨o, es, ep, e, d, r⟩ => ⟨o, es, ep, hidT_get e (isD e d), d, r⟩
  have KH : K.In (hidT s1.heap H) := fun b o e => hidT_get (KX b o e) (by
    cases q : H b with
    | none => rfl
    | some u =>
      rcases what q with ⟨m, _⟩ | ⟨_, rfl, w0, _⟩
      · obtain ⟨p, hp, rfl⟩ := List.mem_map.mp m
        cases (nT p hp).symm.trans e
      · rw [how, e] at w0
        cases w0)
  have md : Mod K mg (hidT s1.heap H) := ⟨KH, nsH hns, ⟨mb, nsH hb, hbb⟩, hlim.elim fun mc hc => ⟨mc, nsH hc.1, hc.2⟩⟩
  have en : Env0 P w K mg (hidT s1.heap H) callerA [] s1 H := ⟨rfl, md, fun _ _ e => of_hidT e, Nat.le_of_eq (hidT_size ..), True.intro, fun _ hb => (List.not_mem_nil hb).elim, hok, AllBare.of_eq hg⟩
  have tb : ∀ p ∈ cs, TabB (hidT s1.heap H) mg p.1 p.2 := fun p hp => by
    refine ⟨?_, ?_, fun z => ?_⟩
    · obtain ⟨oc, us, file, tf, flags, tg, inF, text, tt, e1, r1, r2, r3, r⟩ := C p hp
      refine ⟨oc, us, file, tf, flags, tg, inF, text, tt, hidT_get e1 (apart e1 (by rw [r2]; exact fun _ _ z => nomatch z) fun z => ?_), r1, r2, r3, r⟩
      rw [r2] at z
      cases z
      simp at r3
    · obtain ⟨bm, ob, b1, b2, b3, b4, b5, b6⟩ := hbm
      refine ⟨bm, ob, b1, b2, fun z => ?_, fun z => ?_, hidT_get b3 (apart b3 (by rw [b6]; exact fun _ _ z => nomatch z) (by rw [b6]; exact fun z => nomatch z)), b4, b5, b6⟩
      · obtain ⟨og, es, ep, e, d, _⟩ := hns
        rw [z] at b3
        cases e.symm.trans b3
        rw [b6] at d
        cases d
      · rw [z] at b3
        cases (hT p hp).symm.trans b3
        cases b6
    · obtain ⟨og, es, ep, e, d, _⟩ := hns
      rw [z] at e
      cases (hT p hp).symm.trans e
      cases d
  refine codeAny_mono (F _ KH (nsH hns) tb callerA [] s1 H [.ref a] [.ref a] _ _ rfl hr en (.cons rfl .nil) (hsp H (fun p hp => tabs _ (List.mem_map.mpr ⟨p, hp, rfl⟩)) hS)) fun r s' h => ?_
  match r, h with
  | .error e, h => exact h.elim
  | .ok .next, h => exact h.elim
  | .ok .brk, h => exact h.elim
  | .ok .cont, h => exact h.elim
  | .ok (.ret u), h =>
    obtain ⟨v, H', os, bare, un, hok', rr, q⟩ := h
    cases (show v = .bl true from q)
    cases (show u = Value.bool true from rr)
    have same : ∀ b ob, b ∉ cs.map (·.2) → s1.heap.get? b = some ob → s'.heap.get? b = some ob := fun b ob nb e => by
      cases z : H b with
      | none => exact un.keep b ob e z (fun y => (List.not_mem_nil y).elim) List.not_mem_nil
      | some u =>
        rcases what z with ⟨m, _⟩ | ⟨_, rfl, _, rfl⟩
        · exact (nb m).elim
        · cases ha.symm.trans e
          exact (hok' b _ (un.frzs b _ _ z)).1
    have more : ∀ p ∈ cs, ∃ ms : Array Value, s'.heap.get? p.2 = some { cls := .none, data := .fields ms } := fun p hp => by
      obtain ⟨ms, z⟩ := un.tbls p.2 #[] (tabs _ (List.mem_map.mpr ⟨p, hp, rfl⟩))
      exact ⟨_, hok' p.2 _ z⟩
    refine ⟨rfl, ⟨fun b ob e => ?_, fun b ob e => ?_⟩, os, bare⟩
    · by_cases m : b ∈ cs.map (·.2)
      · obtain ⟨p, hp, rfl⟩ := List.mem_map.mp m
        obtain ⟨ms, z⟩ := more p hp
        cases (hT p hp).symm.trans e
        exact .inr (.inl ⟨((C p hp).tab (hT p hp)).isCodeTable, rfl, #[], ms, rfl, by rw [Array.empty_append]; exact z⟩)
      · exact .inl (same b ob m e)
    · by_cases m : b ∈ cs.map (·.2)
      · obtain ⟨p, hp, rfl⟩ := List.mem_map.mp m
        obtain ⟨ms, z⟩ := more p hp
        exact ⟨_, z⟩
      · exact ⟨ob, same b ob m e⟩
/-- what is known of the law's promise at the heap h -/
def LawG (l : PySem.W.OpenLaw) (w : World) (K : PySem.W.Frag) (k n : Nat) (mg : Str → Option Value) (fa : Addr) (h : Heap) : Prop :=
  ∃ (cs : List (Addr × Addr)) (sp : Sp), (∀ p ∈ cs, h.get? p.2 = some oTab) ∧ (∀ p ∈ cs, K.lookup p.2 = none) ∧ (∀ p ∈ cs, PySem.W.CodeHd h p.1 p.2) ∧
    (∀ (H : Hp) (a : Addr) (ns : List Int), ns.length ≤ n → (∀ p ∈ cs, H p.2 = some (.tbl #[])) → SqL K H a (ns.map V.int) → sp [.ref a] H (fun v _ => v = .bl true) fun _ _ _ => False) ∧
    ∀ base : Heap, K.In base → base.Ns mainGlobals mg → (∀ p ∈ cs, TabB base mg p.1 p.2) → FnG l.prog w K mg base CX0 k fa sp
theorem walk_ofTG {l : PySem.W.OpenLaw} {n k : Nat} {q : Program} {loose : List Str} {XP : (Str → Option Value) → Heap → Prop} {YP : World → Heap → Prop} {d : DefRec} {K : Params → PySem.W.Frag}
    (hn : l.most = some n) (hn2 : n ≤ sizeLine) (hdf : d.params.defaults = []) (hr : Room k callerA) (hY : ∀ (w : World) (h : Heap), YP w h → (K w.params).In h)
    (F : ∀ (w : World) (mg : Str → Option Value) (fa : Addr) (h : Heap), YP w h → (K w.params).In h → h.Ns mainGlobals mg → mg d.name = some (.ref fa) → LawG l w (K w.params) k n mg fa h) :
    PySem.W.WalkO q loose XP YP l.row.toRowW d [] (fun f vs => PySem.call f vs) := by
  refine Att.attach_call hn hdf fun w s0 s1 mg mb fa o pm cd doc a vs ns G Y ho hd hcd hmg hobj hints hlen hg => ?_
  have KX := hY w _ Y
  obtain ⟨cs, sp, hT, nT, C, hsp, hF⟩ := F w mg fa _ Y KX G.T.g hmg
  exact law_callTG KX G.T.g G.T.b G.T.builtins G.T.nolimit hg hT nT C G.T.bmain hobj hints (Nat.le_trans hlen hn2) hr hF fun H hH hS => hsp H a ns hlen hH hS
/-- a def whose code object is known: it makes lambdas -/
structure FunL (K : PySem.W.Frag) (x qual : Str) (st : Stmt) (f : Addr) (c : Addr) : Prop where
  ex : ∃ (oc : Value) (od : Option Addr) (kV doc pm : Value) (an : Option Addr) (ct : Value) (osl : Array (Option Value)), K.lookup f = some ⟨oc, od, .func (PySem.W.fnOf x qual (defArgs st) (defBody st) (defScope st) .none kV doc pm an (.ref c) ct), osl⟩
  cd : PySem.W.codeIn K (.ref c) qual = true
theorem okGC0 {P : Program} {w : World} {K : PySem.W.Frag} {mg : Str → Option Value} {base : Heap} {k : Nat} {f c : Addr} {sp : Sp} {x qual : Str} {st : Stmt} {fd : FuncData} {N ps : List Str} (L : FunL K x qual st f c) (F : L2.Fun K x qual st f fd) (S : FnScope N ps (defScope st)) (B : Binds K fd ps []) (hlen : ∀ vs H Q E, sp vs H Q E → vs.length = ps.length)
    (hbody : ∀ (A : Around) (outer : List Env) (s : Shared) (H : Hp) (vs : List V) (Q : VK) (E : XK), A.guards = some [] → Room k (A.deeper (envOfC qual (defScope st) s.heap.objs.size f (.ref c))) → sp vs H Q E →
      ∃ t, PSs (cxOf CX0 P w K mg base N qual (defScope st) f (.ref c) A outer s H E).nox (defBody st) t ∧ t { nx := fun _ H' => Q .non H', rt := Q } (start N vs) H) : FnG P w K mg base CX0 (k + 1) f sp := by
  intro A outer s H us vs Q E hg hr e0 r hsp
  obtain ⟨oc, od, kV, doc, pm, an, cdv, ct, osl, rfl, lk, hcd⟩ := F.ex
  obtain ⟨oc', od', kV', doc', pm', an', ct', osl', lk'⟩ := L.ex
  cases lk.symm.trans lk'
  have hv : vs.length = ps.length := hlen _ _ _ _ hsp
  have hu : us.length = ps.length := by rw [← r.length]; exact hv
  have KI : K.In s.heap := e0.mod.kin.keeps fun b o e => (e0.bs b o e).1
  have b0 := B s us KI (by rw [List.append_nil]; exact hu)
  rw [List.append_nil] at b0
  refine StX.run_bnd lk hcd S hr e0 (G := fun xs H2 => xs = vs ∧ H2 = H) (fun A' Ex Q' h => ?_) fun s2 H2 xs ⟨ex, eH⟩ hr' => ?_
  · exact b0 _ _ _ _ (h s H vs us e0 Un.refl rfl (fun _ _ z => z) r hv ⟨rfl, rfl⟩)
  · subst ex eH
    obtain ⟨t, a, b⟩ := hbody A outer s2 _ _ Q E hg hr' hsp
    exact ⟨t, a.nox, b⟩
end FR
set_option Elab.async false
set_option linter.all false
set_option maxRecDepth 100000
/-! a classmethod without arguments -/
namespace ClX
open PySem PySem.Spec PyProof.Rows L2
section
variable {X : Cx} {C g p : Addr} {mc : Value} {m : Str} {o : Expr} {ta : TE} {CX : CXT} {k : Nat} {sp : Sp} {E : XK} {apos pos : Pos}
theorem pe_cmeth0 {pl : Sem Bool} (he : PE X o ta) (r : CRead X.K C mc) (c : CMet X.K C mc m p g) (F : FnR X.prog X.w X.K X.mg X.base CX k g sp) (hr : Room k X.A) (hx : Passes CX X E)
    (ht : eval (.Call (.Attribute o m apos) [] [] pos) X.env = (do
      let ov ← eval o X.env
      standAt apos.atName
      let (f, first) ← holding [ov] (getMethod ov m pl)
      callWith pos f first (backTo pos (starEach [] X.env)) (backToKw pos (keywordEach [] X.env))) := by rfl) :
    PE X (.Call (.Attribute o m apos) [] [] pos) (tCMeth C sp E ta tNil) := by
  refine ⟨fun pins s σ H Q I h => ?_⟩
  refine PySem.W.methodCall_KW (pl := pl) (thn (he.run pins s σ H _ I h) fun u s1 ⟨x, H1, I1, rx, ex, q⟩ => ?_) ht
  subst ex
  obtain rfl : u = Value.ref C := rx
  refine getmethcm_ok I1 r c fun s2 I2 => ?_
  exact PySem.W.callWith_M0 (first := []) ⟨pin_at I2, I2.kIn⟩ c.fi (run_cm F hr hx I2 .nil q)
end
end ClX
set_option Elab.async false
set_option linter.all false
set_option maxRecDepth 100000
set_option maxHeartbeats 1000000
/-! zip of a tuple and a list (any two iterators that are asked by nextOf) -/
namespace FR
open PySem
open PySem.Sem (wp)
/-- an iterator at it over what stands at l, asked by nextOf -/
structure Nx (prog : Program) (w : World) (it l : Addr) (xs : Array Value) (St : Nat → Heap → Prop) : Prop where
  one : ∀ (A : Around) (E Q : Value → Shared → Prop) (s : Shared) (k : Nat) (x : Value), St k s.heap → xs[k]? = some x → (∀ g, St (k + 1) g → Heap.SameBut it s.heap g → Q x { s with heap := g }) → wpAny (model prog w) A (Builtin.SmallTypes.nextOf (.ref it)) Q E s
  fin : ∀ (A : Around) (E Q : Value → Shared → Prop) (s : Shared) (k : Nat), A.handled = none → St k s.heap → xs[k]? = none → (∀ g e, Heap.ExtBut it s.heap g → (∃ o, g.get? e = some o ∧ o.cls = .type "StopIteration") → E (.ref e) { s with heap := g }) →
    wpAny (model prog w) A (Builtin.SmallTypes.nextOf (.ref it)) Q E s
  frame : ∀ k h g b, St k h → Heap.ExtBut b h g → it ≠ b → l ≠ b → St k g
section
variable {prog : Program} {w : World}
theorem nx_tup {it l : Addr} {xs : Array Value} (ne : l ≠ it) : Nx prog w it l xs (fun k h => h.IsTupleIter it l k ∧ h.IsTuple l xs) where
  one := fun A E Q s k x st e q => RZ.nextOf_tuple_item st.1 st.2 e fun g z sb => q g ⟨z, st.2.extBut sb.extBut ne⟩ sb
  fin := fun A E Q s k hh st e q => RZ.nextOf_tuple_end hh st.1 st.2 e q
  frame := fun k h g b st x n1 n2 => ⟨st.1.extBut x n1, st.2.extBut x n2⟩
theorem nx_lst {it l : Addr} {xs : Array Value} (ne : l ≠ it) : Nx prog w it l xs (fun k h => h.IsListIter it l k ∧ h.IsList l xs) where
  one := fun A E Q s k x st e q => wpAny_nextOf_list_item st.1 st.2 e fun g z sb => q g ⟨z, st.2.extBut sb.extBut ne⟩ sb
  fin := fun A E Q s k hh st e q => wpAny_nextOf_list_end hh st.1 st.2 e q
  frame := fun k h g b st x n1 n2 => ⟨st.1.extBut x n1, st.2.extBut x n2⟩
/-- a zip that stands between two turns -/
structure ZAt (h : Heap) (z TI TO i1 i2 : Addr) (f : Value) (a b : Value) : Prop where
  zp : IsZip h z TI TO f
  ti : IsPair h TI (.ref i1) (.ref i2)
  to : IsPair h TO a b
variable {A : Around} {E : Value → Shared → Prop} {s : Shared} {z TI TO i1 i2 l1 l2 : Addr} {k1 k2 : Nat} {xs ys : Array Value} {x y a b : Value} {S1 S2 : Nat → Heap → Prop}
theorem zg_item {Q : Value → Shared → Prop} (D : ZipApart z TI TO i1 i2 l1 l2) (N1 : Nx prog w i1 l1 xs S1) (N2 : Nx prog w i2 l2 ys S2) (Z : ZAt s.heap z TI TO i1 i2 .none a b)
    (h1 : S1 k1 s.heap) (h2 : S2 k2 s.heap) (ex : xs[k1]? = some x) (ey : ys[k2]? = some y) (big : z < s.heap.objs.size ∧ l1 < s.heap.objs.size ∧ l2 < s.heap.objs.size ∧ i1 < s.heap.objs.size ∧ i2 < s.heap.objs.size)
    (q : ∀ g, ZAt g z TI TO i1 i2 (rawInt s.heap.objs.size) x y → S1 (k1 + 1) g → S2 (k2 + 1) g → IsPair g s.heap.objs.size x y →
      (∀ c o, c ≠ z → c ≠ TO → c ≠ i1 → c ≠ i2 → s.heap.get? c = some o → g.get? c = some o) → Q (.ref s.heap.objs.size) { s with heap := g }) :
    wpAny (model prog w) A (Builtin.«zip.__next__» ⟨[.ref z], []⟩) (fun fin s' => ∃ v, fin = .done (.ret v) ∧ Q v s') E s := by
  obtain ⟨zp, ti, to⟩ := Z
  obtain ⟨bz, bl1, bl2, bi1, bi2⟩ := big
  show wpAny _ _ (field (.ref z) 2 >>= _) _ _ _; refine wpAny_bind (wpAny_field zp rfl (x := .bool false) rfl ?_)
  show wpAny _ _ (field (.ref z) 3 >>= _) _ _ _; refine wpAny_bind (wpAny_field zp rfl (x := .ref TI) rfl ?_)
  refine wpAny_bind (wpAny_seqItems ti rfl ?_)
  show wpAny _ _ (Builtin.SmallTypes.ownedTupleIsFree (.ref z) >>= _) _ _ _; refine wpAny_bind ?_
  unfold Builtin.SmallTypes.ownedTupleIsFree; refine wpAny_bind (wpAny_field zp rfl (x := .none) rfl (wpAny_pure ?_))
  simp only [if_true]; refine wpAny_bind (wpAny_rule ?_)
  refine wpAny_bind (wpAny_field zp rfl (x := .ref TO) rfl ?_); refine wpAny_bind (wpAny_setField_rec zp (by simp) fun g1 z1 s1 => ?_)
  have z1 : IsZip g1 z TI TO .ellipsis := z1
  refine wpAny_bind ?_; simp only [List.zipIdx_cons, List.zipIdx_nil, List.forIn_cons, List.forIn_nil]
  refine wpAny_bind (wpAny_bind (wpAny_onRaise ?_)); show wpAny _ _ (Builtin.SmallTypes.nextOf (.ref i1) >>= _) _ _ _
  refine wpAny_bind (N1.one _ _ _ _ k1 x (N1.frame _ _ _ _ h1 s1.extBut D.i1z D.l1z) ex fun g2 t1 s2 => wpAny_pure ?_)
  have to2 : IsPair g2 TO a b := s2.extBut _ _ D.TOi1 (s1.extBut _ _ D.TOz to)
  have r2 := N2.frame _ _ _ _ (N2.frame _ _ _ _ h2 s1.extBut D.i2z D.l2z) s2.extBut D.i12.symm D.l2i1
  refine wpAny_bind (wpAny_seqItems to2 rfl ?_); refine wpAny_bind (wpAny_updateSeq_pair to2 fun g3 to3 s3 => ?_)
  have to3 : IsPair g3 TO x b := to3
  refine wpAny_bind (wpAny_letGo (wpAny_pure ?_)); refine wpAny_bind (wpAny_bind (wpAny_onRaise ?_))
  show wpAny _ _ (Builtin.SmallTypes.nextOf (.ref i2) >>= _) _ _ _
  refine wpAny_bind (N2.one _ _ _ _ k2 y (N2.frame _ _ _ _ r2 s3.extBut D.TOi2.symm D.l2TO) ey fun g4 t2 s4 => wpAny_pure ?_)
  have to4 : IsPair g4 TO x b := s4.extBut _ _ D.TOi2 to3
  refine wpAny_bind (wpAny_seqItems to4 rfl ?_); refine wpAny_bind (wpAny_updateSeq_pair to4 fun g5 to5 s5 => ?_)
  have to5 : IsPair g5 TO x y := to5
  refine wpAny_bind (wpAny_letGo (wpAny_pure (wpAny_pure ?_))); refine wpAny_bind (wpAny_seqItems to5 rfl ?_); refine wpAny_bind (wpAny_newTuple ?_)
  have sz : g5.objs.size = s.heap.objs.size := by rw [s5.1, s4.1, s3.1, s2.1, s1.1]
  have z5 : IsZip g5 z TI TO .ellipsis := s5.extBut _ _ D.TOz.symm (s4.extBut _ _ D.i2z.symm (s3.extBut _ _ D.TOz.symm (s2.extBut _ _ D.i1z.symm z1)))
  have k5 : ∀ c o, c ≠ z → c ≠ TO → c ≠ i1 → c ≠ i2 → s.heap.get? c = some o → g5.get? c = some o := fun c o n1 n2 n3 n4 e =>
    s5.extBut _ _ n2 (s4.extBut _ _ n4 (s3.extBut _ _ n2 (s2.extBut _ _ n3 (s1.extBut _ _ n1 e))))
  have u1 : S1 (k1 + 1) g5 := N1.frame _ _ _ _ (N1.frame _ _ _ _ (N1.frame _ _ _ _ t1 s3.extBut D.TOi1.symm D.l1TO) s4.extBut D.i12 D.l1i2) s5.extBut D.TOi1.symm D.l1TO
  have u2 : S2 (k2 + 1) g5 := N2.frame _ _ _ _ t2 s5.extBut D.TOi2.symm D.l2TO
  show wpAny _ _ (Builtin.SmallTypes.ownedTupleHandOut (.ref z) (.ref g5.objs.size) >>= _) _ _ _
  refine wpAny_bind ?_; unfold Builtin.SmallTypes.ownedTupleHandOut
  have z6 : IsZip (g5.push { cls := .type "tuple", data := .seq #[x, y] }) z TI TO .ellipsis := Heap.get?_push_of_some _ z5
  refine wpAny_bind (wpAny_setField_rec z6 (by simp) fun g7 z7 s7 => ?_)
  have z7 : IsZip g7 z TI TO (rawInt g5.objs.size) := z7
  refine wpAny_setField_rec z7 (by simp) fun g8 z8 s8 => ?_
  have z8 : IsZip g8 z TI TO (rawInt g5.objs.size) := z8
  have up : ∀ c o, c ≠ z → g5.get? c = some o → g8.get? c = some o := fun c o n e => s8.extBut _ _ n (s7.extBut _ _ n (Heap.get?_push_of_some _ e))
  have zz : g5.objs.size ≠ z := Nat.ne_of_gt (by rw [sz]; exact bz)
  have m1 : i1 ≠ g5.objs.size := Nat.ne_of_lt (by rw [sz]; exact bi1)
  have m2 : i2 ≠ g5.objs.size := Nat.ne_of_lt (by rw [sz]; exact bi2)
  have m3 : l1 ≠ g5.objs.size := Nat.ne_of_lt (by rw [sz]; exact bl1)
  have m4 : l2 ≠ g5.objs.size := Nat.ne_of_lt (by rw [sz]; exact bl2)
  have hT : IsPair g8 g5.objs.size x y := s8.extBut _ _ zz (s7.extBut _ _ zz (Heap.get?_push_size _ rfl))
  have p6 : Heap.ExtBut g5.objs.size g5 (g5.push { cls := .type "tuple", data := .seq #[x, y] }) := fun c o _ e => Heap.get?_push_of_some _ e
  have fr1 : S1 (k1 + 1) g8 := N1.frame _ _ _ _ (N1.frame _ _ _ _ (N1.frame _ _ _ _ u1 p6 m1 m3) s7.extBut D.i1z D.l1z) s8.extBut D.i1z D.l1z
  have fr2 : S2 (k2 + 1) g8 := N2.frame _ _ _ _ (N2.frame _ _ _ _ (N2.frame _ _ _ _ u2 p6 m2 m4) s7.extBut D.i2z D.l2z) s8.extBut D.i2z D.l2z
  rw [sz] at z8 hT
  refine wpAny_pure ⟨_, rfl, ?_⟩
  show Q (.ref g5.objs.size) _
  rw [sz]
  have ti5 : IsPair g5 TI (.ref i1) (.ref i2) := k5 _ _ D.TIz D.TITO D.TIi1 D.TIi2 ti
  exact q g8 ⟨z8, up _ _ D.TIz ti5, up _ _ D.TOz to5⟩ fr1 fr2 hT fun c o n1 n2 n3 n4 e => up c o n1 (k5 c o n1 n2 n3 n4 e)
theorem zg_end {Q : Fin → Shared → Prop} (hh : A.handled = none) (D : ZipApart z TI TO i1 i2 l1 l2) (N1 : Nx prog w i1 l1 xs S1) (N2 : Nx prog w i2 l2 ys S2) (Z : ZAt s.heap z TI TO i1 i2 .none a b)
    (h1 : S1 k1 s.heap) (h2 : S2 k2 s.heap) (en : xs[k1]? = none ∨ ys[k2]? = none)
    (q : ∀ g e, (∀ c o, c ≠ z → c ≠ TO → c ≠ i1 → c ≠ i2 → s.heap.get? c = some o → g.get? c = some o) → (∃ o, g.get? e = some o ∧ o.cls = .type "StopIteration") → E (.ref e) { s with heap := g }) :
    wpAny (model prog w) A (Builtin.«zip.__next__» ⟨[.ref z], []⟩) Q E s := by
  obtain ⟨zp, ti, to⟩ := Z
  show wpAny _ _ (field (.ref z) 2 >>= _) _ _ _; refine wpAny_bind (wpAny_field zp rfl (x := .bool false) rfl ?_)
  show wpAny _ _ (field (.ref z) 3 >>= _) _ _ _; refine wpAny_bind (wpAny_field zp rfl (x := .ref TI) rfl ?_)
  refine wpAny_bind (wpAny_seqItems ti rfl ?_)
  show wpAny _ _ (Builtin.SmallTypes.ownedTupleIsFree (.ref z) >>= _) _ _ _; refine wpAny_bind ?_
  unfold Builtin.SmallTypes.ownedTupleIsFree; refine wpAny_bind (wpAny_field zp rfl (x := .none) rfl (wpAny_pure ?_))
  simp only [if_true]; refine wpAny_bind (wpAny_rule ?_)
  refine wpAny_bind (wpAny_field zp rfl (x := .ref TO) rfl ?_); refine wpAny_bind (wpAny_setField_rec zp (by simp) fun g1 z1 s1 => ?_)
  have z1 : IsZip g1 z TI TO .ellipsis := z1
  refine wpAny_bind ?_; simp only [List.zipIdx_cons, List.zipIdx_nil, List.forIn_cons, List.forIn_nil]
  refine wpAny_bind (wpAny_bind (wpAny_onRaise ?_)); show wpAny _ _ (Builtin.SmallTypes.nextOf (.ref i1) >>= _) _ _ _
  have f1 := N1.frame _ _ _ _ h1 s1.extBut D.i1z D.l1z
  cases ex : xs[k1]? with
  | none =>
    refine wpAny_bind (N1.fin _ _ _ _ k1 hh f1 ex fun g2 e s2 he => ?_)
    obtain ⟨oe, e1, e2⟩ := he
    have z2 : IsZip g2 z TI TO .ellipsis := s2 _ _ D.i1z.symm z1
    have ne : e ≠ z := fun h => by rw [h, z2] at e1; cases e1; simp at e2
    refine wpAny_setField_rec z2 (by simp) fun g3 _ s3 => q g3 e (fun c o n1 _ n3 _ h => s3.extBut _ _ n1 (s2 _ _ n3 (s1.extBut _ _ n1 h))) ⟨oe, s3.extBut _ _ ne e1, e2⟩
  | some x =>
    have ey : ys[k2]? = none := by rcases en with h | h; rw [ex] at h; cases h; exact h
    refine wpAny_bind (N1.one _ _ _ _ k1 x f1 ex fun g2 t1 s2 => wpAny_pure ?_)
    have to2 : IsPair g2 TO a b := s2.extBut _ _ D.TOi1 (s1.extBut _ _ D.TOz to)
    have r2 := N2.frame _ _ _ _ (N2.frame _ _ _ _ h2 s1.extBut D.i2z D.l2z) s2.extBut D.i12.symm D.l2i1
    refine wpAny_bind (wpAny_seqItems to2 rfl ?_); refine wpAny_bind (wpAny_updateSeq_pair to2 fun g3 to3 s3 => ?_)
    refine wpAny_bind (wpAny_letGo (wpAny_pure ?_)); refine wpAny_bind (wpAny_bind (wpAny_onRaise ?_))
    show wpAny _ _ (Builtin.SmallTypes.nextOf (.ref i2) >>= _) _ _ _
    refine wpAny_bind (N2.fin _ _ _ _ k2 hh (N2.frame _ _ _ _ r2 s3.extBut D.TOi2.symm D.l2TO) ey fun g4 e s4 he => ?_)
    obtain ⟨oe, e1, e2⟩ := he
    have z4 : IsZip g4 z TI TO .ellipsis := s4 _ _ D.i2z.symm (s3.extBut _ _ D.TOz.symm (s2.extBut _ _ D.i1z.symm z1))
    have ne : e ≠ z := fun h => by rw [h, z4] at e1; cases e1; simp at e2
    refine wpAny_setField_rec z4 (by simp) fun g5 _ s5 => q g5 e (fun c o n1 n2 n3 n4 h => s5.extBut _ _ n1 (s4 _ _ n4 (s3.extBut _ _ n2 (s2.extBut _ _ n3 (s1.extBut _ _ n1 h))))) ⟨oe, s5.extBut _ _ ne e1, e2⟩
theorem zg_nx {Q : Option Value → Shared → Prop} (D : ZipApart z TI TO i1 i2 l1 l2) (N1 : Nx prog w i1 l1 xs S1) (N2 : Nx prog w i2 l2 ys S2) (Z : ZAt s.heap z TI TO i1 i2 .none a b)
    (h1 : S1 k1 s.heap) (h2 : S2 k2 s.heap) (ex : xs[k1]? = some x) (ey : ys[k2]? = some y) (big : z < s.heap.objs.size ∧ l1 < s.heap.objs.size ∧ l2 < s.heap.objs.size ∧ i1 < s.heap.objs.size ∧ i2 < s.heap.objs.size)
    (q : ∀ g, ZAt g z TI TO i1 i2 (rawInt s.heap.objs.size) x y → S1 (k1 + 1) g → S2 (k2 + 1) g → IsPair g s.heap.objs.size x y →
      (∀ c o, c ≠ z → c ≠ TO → c ≠ i1 → c ≠ i2 → s.heap.get? c = some o → g.get? c = some o) → Q (some (.ref s.heap.objs.size)) { s with heap := g }) :
    wpAny (model prog w) A (pyNext (.ref z)) Q E s := by
  have hT : s.TypeIs (.ref z) "zip" := ⟨_, Z.zp, rfl⟩
  unfold pyNext
  refine wpAny_bind (wpAny_attempt (wpAny_callSpecial?_slot (name := Str.ofString "__next__") hT F.slot_zip_next ?_))
  exact wpAny_call_entry F.slot_zip_next hT F.entry_zip_next (zg_item D N1 N2 Z h1 h2 ex ey big fun g c1 c2 c3 c4 c5 => wpAny_pure (q g c1 c2 c3 c4 c5)) (F.args_zip_next_1 _)
theorem zg_stop {Q : Option Value → Shared → Prop} (hh : A.handled = none) (D : ZipApart z TI TO i1 i2 l1 l2) (N1 : Nx prog w i1 l1 xs S1) (N2 : Nx prog w i2 l2 ys S2) (Z : ZAt s.heap z TI TO i1 i2 .none a b)
    (h1 : S1 k1 s.heap) (h2 : S2 k2 s.heap) (en : xs[k1]? = none ∨ ys[k2]? = none)
    (q : ∀ g, (∀ c o, c ≠ z → c ≠ TO → c ≠ i1 → c ≠ i2 → s.heap.get? c = some o → g.get? c = some o) → Q none { s with heap := g }) : wpAny (model prog w) A (pyNext (.ref z)) Q E s := by
  have hT : s.TypeIs (.ref z) "zip" := ⟨_, Z.zp, rfl⟩
  unfold pyNext
  refine wpAny_bind (wpAny_attempt (wpAny_callSpecial?_slot (name := Str.ofString "__next__") hT F.slot_zip_next ?_))
  refine wpAny_call_entry F.slot_zip_next hT F.entry_zip_next (zg_end hh D N1 N2 Z h1 h2 en fun g e hk he => ?_) (F.args_zip_next_1 _)
  obtain ⟨o, ho, hc⟩ := he
  refine wpAny_bind (wpAny_isInstance (T := "StopIteration") (b := true) ⟨o, ho, hc⟩ isSubtype_stop ?_)
  exact wpAny_pure (q _ hk)
end
abbrev zm1 (h : Heap) (a : Addr) : Heap := h.push { cls := .type "tuple_iterator", data := .fields #[.ref a, .int 0 0] }
abbrev zm2 (h : Heap) (a b : Addr) : Heap := (zm1 h a).push { cls := .type "list_iterator", data := .fields #[.ref b, .int 0 0] }
abbrev zm3 (h : Heap) (a b : Addr) : Heap := (zm2 h a b).push { cls := .type "tuple", data := .seq #[.ref h.objs.size, .ref (zm1 h a).objs.size] }
abbrev zm4 (h : Heap) (a b : Addr) : Heap := (zm3 h a b).push { cls := .type "tuple", data := .seq #[.none, .none] }
abbrev zm5 (h : Heap) (a b : Addr) : Heap := (zm4 h a b).push { cls := .type "zip", data := .fields #[.none, .bool false, .bool false, .ref (zm2 h a b).objs.size, .ref (zm3 h a b).objs.size] }
theorem meets_zm (a b : Addr) (xs ys : Array Value) :
    Meets (Builtin.«zip.__new__» ⟨[.type "zip", .ref a, .ref b], []⟩) (fun _ R s => s.heap.IsTuple a xs ∧ s.heap.IsList b ys ∧ R (.ok (.ret (.ref (zm4 s.heap a b).objs.size))) { s with heap := zm5 s.heap a b }) :=
  .of_wp fun prog w A R s h => by
    obtain ⟨hp, g, d, tk, os⟩ := s; obtain ⟨m1, m2, h⟩ := h
    have hsub := sub_zip
    have hA : Heap.IsTuple (Shared.heap ⟨hp, g, d, tk, os⟩) a xs := m1
    have hB : Heap.IsList (Shared.heap ⟨hp.push { cls := .type "tuple_iterator", data := .fields #[.ref a, .int 0 0] }, g, d, tk, os⟩) b ys := Heap.IsList.push m2 _
    wp_walk using wpAny_pyIter_tuple hA, wpAny_pyIter_list hB
    exact ⟨_, rfl, h⟩
section
variable {prog : Program} {w : World} {A : Around} {E : Value → Shared → Prop} {s : Shared}
theorem call_zm {a b : Addr} {xs ys : Array Value} {Q : Value → Shared → Prop} (m1 : s.heap.IsTuple a xs) (m2 : s.heap.IsList b ys)
    (h : ∀ g, ZAt g (s.heap.objs.size + 4) (s.heap.objs.size + 2) (s.heap.objs.size + 3) s.heap.objs.size (s.heap.objs.size + 1) .none .none .none → g.IsTupleIter s.heap.objs.size a 0 → g.IsListIter (s.heap.objs.size + 1) b 0 →
      (∀ c o, s.heap.get? c = some o → g.get? c = some o) → Q (.ref (s.heap.objs.size + 4)) { s with heap := g }) :
    wpAny (model prog w) A (call (.type "zip") [.ref a, .ref b]) Q E s := by
  refine callType_new F.called_zip (by decide) (F.typeCall_zip_2 _ _) (F.newCall_zip_2 _ _) (fun obj => F.args_object_init_3 obj _ _) F.entry_zip_new (meets_zm a b xs ys) ⟨m1, m2, ?_⟩
  have n1 : (zm1 s.heap a).objs.size = s.heap.objs.size + 1 := Heap.size_push ..
  have n2 : (zm2 s.heap a b).objs.size = s.heap.objs.size + 2 := by rw [Heap.size_push, n1]
  have n3 : (zm3 s.heap a b).objs.size = s.heap.objs.size + 3 := by rw [Heap.size_push, n2]
  have n4 : (zm4 s.heap a b).objs.size = s.heap.objs.size + 4 := by rw [Heap.size_push, n3]
  have e5 : (zm5 s.heap a b).get? (zm4 s.heap a b).objs.size = some _ := Heap.get?_push_size _ rfl
  have e4 : (zm5 s.heap a b).get? (zm3 s.heap a b).objs.size = some _ := Heap.get?_push_of_some _ (Heap.get?_push_size _ rfl)
  have e3 : (zm5 s.heap a b).get? (zm2 s.heap a b).objs.size = some _ := Heap.get?_push_of_some _ (Heap.get?_push_of_some _ (Heap.get?_push_size _ rfl))
  have e2 : (zm5 s.heap a b).get? (zm1 s.heap a).objs.size = some _ := Heap.get?_push_of_some _ (Heap.get?_push_of_some _ (Heap.get?_push_of_some _ (Heap.get?_push_size _ rfl)))
  have e1 : (zm5 s.heap a b).get? s.heap.objs.size = some _ := Heap.get?_push_of_some _ (Heap.get?_push_of_some _ (Heap.get?_push_of_some _ (Heap.get?_push_of_some _ (Heap.get?_push_size _ rfl))))
  show _ ∧ _
  rw [n2, n3, n4] at e5
  rw [n1, n2] at e3
  rw [n3] at e4
  rw [n1] at e2
  rw [n4]
  exact ⟨⟨_, e5, rfl⟩, h _ ⟨e5, e3, e4⟩ ⟨_, e1, rfl, rfl⟩ ⟨_, e2, rfl, rfl⟩ fun c o e => Heap.get?_push_of_some _ (Heap.get?_push_of_some _ (Heap.get?_push_of_some _ (Heap.get?_push_of_some _ (Heap.get?_push_of_some _ e))))⟩
end
open PySem.Spec PyProof.Rows L2
/-- zip of the tuple at a and the list at b -/
def Itm (K : PySem.W.Frag) (a b : Addr) : It :=
  ⟨fun i H => ∃ (xs ys : List V) (x y : V), SqT K H a xs ∧ SqL K H b ys ∧ xs[i]? = some x ∧ ys[i]? = some y,
    fun i H v H' => ∃ T x y, v = .ref T ∧ H T = none ∧ H' = upd H T (.tup [x, y]) ∧ (∀ xs, SqT K H a xs → xs[i]? = some x) ∧ ∀ ys, SqL K H b ys → ys[i]? = some y,
    fun i H => ∃ xs ys : List V, SqT K H a xs ∧ SqL K H b ys ∧ (xs.length ≤ i ∨ ys.length ≤ i)⟩
theorem turn_zm {P : Program} {w : World} {K : PySem.W.Frag} {elts : List Expr} {kk : Nat} {tpos : Pos} {a b z TI TO i1 i2 : Addr} (D : ZipApart z TI TO i1 i2 a b) :
    Turn P w K (.Tuple elts kk tpos) (Itm K a b) [z, TI, TO, i1, i2] z (fun i h => (∃ x y, ZAt h z TI TO i1 i2 .none x y) ∧ h.IsTupleIter i1 a i ∧ h.IsListIter i2 b i) where
  mem := by simp
  obj := fun i h st c hc => by
    obtain ⟨⟨x, y, zp, ti, to⟩, ⟨o1, e1, _, d1⟩, ⟨o2, e2, _, d2⟩⟩ := st
    rcases (by simpa using hc : c = z ∨ c = TI ∨ c = TO ∨ c = i1 ∨ c = i2) with r | r | r | r | r
    · rw [r]; exact ⟨_, zp, fun v q => nomatch q⟩
    · rw [r]; exact ⟨_, ti, fun v q => nomatch q⟩
    · rw [r]; exact ⟨_, to, fun v q => nomatch q⟩
    · rw [r]; exact ⟨o1, e1, fun v q => by rw [d1] at q; cases q⟩
    · rw [r]; exact ⟨o2, e2, fun v q => by rw [d2] at q; cases q⟩
  keep := fun i h g st k => by
    obtain ⟨⟨x, y, zp, ti, to⟩, h1, h2⟩ := st
    exact ⟨⟨x, y, k z (by simp) _ zp, k TI (by simp) _ ti, k TO (by simp) _ to⟩, h1.at fun o q => k i1 (by simp) o q, h2.at fun o q => k i2 (by simp) o q⟩
  item := by
    intro X hP hw hK hc i pins s σ H E I hf st hg
    subst hP hw hK
    obtain ⟨⟨x0, y0, Z⟩, h1, h2⟩ := st
    obtain ⟨xs, ys, x, y, sx, sy, ex, ey⟩ := hg
    obtain ⟨its, rv, p, _⟩ := I.tuple sx
    obtain ⟨its2, rv2, p2, _⟩ := I.list sy
    obtain ⟨u, hu, ru⟩ := rv.get ex
    obtain ⟨u2, hu2, ru2⟩ := rv2.get ey
    have bz : z < s.heap.objs.size := Heap.lt_size Z.zp
    have b1 : i1 < s.heap.objs.size := by obtain ⟨_, e, _⟩ := h1; exact Heap.lt_size e
    have b2 : i2 < s.heap.objs.size := by obtain ⟨_, e, _⟩ := h2; exact Heap.lt_size e
    have ba : a < s.heap.objs.size := by obtain ⟨_, e, _⟩ := id p; exact Heap.lt_size e
    have hin : ∀ c ∈ [z, TI, TO, i1, i2], c < s.heap.objs.size := fun c hcm => by
      rcases (by simpa using hcm : c = z ∨ c = TI ∨ c = TO ∨ c = i1 ∨ c = i2) with r | r | r | r | r
      · rw [r]; exact bz
      · rw [r]; exact Heap.lt_size Z.ti
      · rw [r]; exact Heap.lt_size Z.to
      · rw [r]; exact b1
      · rw [r]; exact b2
    refine zg_nx D (nx_tup D.l1i1) (nx_lst D.l2i2) Z ⟨h1, p⟩ ⟨h2, p2.isList⟩ (x := u) (y := u2) (by simpa using hu) (by simpa using hu2) ⟨bz, ba, p2.lt, b1, b2⟩ fun g Z' t1 t2 hT hk => ?_
    refine ⟨_, rfl, wpAny_letOwnedTupleGo_zip (s := { s with heap := g }) Z'.zp fun g2 z2 sb => ?_⟩
    have hT2 : IsPair g2 s.heap.objs.size u u2 := (sb.2 _ (Nat.ne_of_gt bz)).trans hT
    have new : ObjOk X.prog X.w (upd H s.heap.objs.size (.tup [x, y])) g2 s.heap.objs.size (.tup [x, y]) := ⟨by show 2 ≤ sizeLine; decide, [u, u2], .cons ru (.cons ru2 .nil), ⟨_, hT2, rfl, _, rfl⟩⟩
    have old : ∀ c o, c ∉ [z, TI, TO, i1, i2] → s.heap.get? c = some o → g2.get? c = some o := fun c o hb q => by
      simp only [List.mem_cons, List.not_mem_nil, or_false, not_or] at hb
      exact (sb.2 c hb.1).trans (hk c o hb.1 hb.2.2.1 hb.2.2.2.1 hb.2.2.2.2 q)
    refine ⟨.ref s.heap.objs.size, _, I.turnedNew (t' := s.toks) (ch := [z, TI, TO, i1, i2]) old hf (Nat.le_refl _) new, rfl, ⟨_, x, y, rfl, I.hok.fresh (Nat.le_refl _), rfl, fun l hl => ?_, fun l hl => ?_⟩, ⟨⟨u, u2, z2, (sb.2 _ D.TIz).trans Z'.ti, (sb.2 _ D.TOz).trans Z'.to⟩, ?_, ?_⟩, fun c hcm => ?_⟩
    · rw [I.tuple_inj hl sx]; exact ex
    · rw [I.list_inj hl sy]; exact ey
    · exact t1.1.at fun o q => (sb.2 _ D.i1z).trans q
    · exact t2.1.at fun o q => (sb.2 _ D.i2z).trans q
    · rw [upd_ne (Nat.ne_of_lt (hin c hcm))]
      exact (hf c hcm).1
  done := by
    intro X hP hw hK hc i pins s σ H E I hf st hg
    subst hP hw hK
    obtain ⟨⟨x0, y0, Z⟩, h1, h2⟩ := st
    obtain ⟨xs, ys, sx, sy, en⟩ := hg
    obtain ⟨its, rv, p, _⟩ := I.tuple sx
    obtain ⟨its2, rv2, p2, _⟩ := I.list sy
    have l1 := rv.length
    have l2 := rv2.length
    have he : its.toArray[i]? = none ∨ its2.toArray[i]? = none := en.imp (fun q => by simp; omega) (fun q => by simp; omega)
    refine zg_stop (I.ok.hd hc) D (nx_tup D.l1i1) (nx_lst D.l2i2) Z ⟨h1, p⟩ ⟨h2, p2.isList⟩ he fun g hk => ⟨rfl, I.turnedL (t' := s.toks) (ch := [z, TI, TO, i1, i2]) (fun c o hb q => ?_) hf⟩
    simp only [List.mem_cons, List.not_mem_nil, or_false, not_or] at hb
    exact hk c o hb.1 hb.2.2.1 hb.2.2.2.1 hb.2.2.2.2 q
  self := fun A i s Q E st h => by
    obtain ⟨⟨_, _, Z⟩, _⟩ := st
    exact wpAny_pyIter_zip Z.zp h
def iZm (K : PySem.W.Frag) (ta : TA) : L2.TI := fun σ H R => ta σ H fun vs H1 => ∃ a b xs ys, vs = [.ref a, .ref b] ∧ SqT K H1 a xs ∧ SqL K H1 b ys ∧ R (Itm K a b) H1
theorem pi_zm {X : Cx} {e e2 : Expr} {ta : TA} {p pos tpos : Pos} {elts : List Expr} {kk : Nat} (hg : Gl X "zip") (hm : X.mg "zip" = none) (ha : PA X [e, e2] ta)
    (hs : starEach [e, e2] X.env = (false, eval e X.env) :: starEach [e2] X.env := by rfl) (hpl : (backTo pos (starEach [e2] X.env)).any (·.1) = false := by rfl) : PI X (.Tuple elts kk tpos) (.Call (.Name "zip" p) [e, e2] [] pos) (iZm X.K ta) := by
  refine ⟨fun pins s σ H R I h => Call_ (ld_blt I hg hm PyProof.Rows.boot_zip (PyProof.Rows.callWith_type1 (thn (ha.run pos pins s σ H _ I h) fun us s1 hh => ?_) hs hpl))⟩
  obtain ⟨vs, H1, I1, r1, a, b, xs, ys, rfl, sx, sy, q⟩ := hh
  match us, r1 with
  | [_, _], .cons r (.cons r' .nil) =>
    cases r
    cases r'
    obtain ⟨its, rv, p1, _⟩ := I1.tuple sx
    obtain ⟨its2, rv2, p2, _⟩ := I1.list sy
    have la : a < s1.heap.objs.size := by obtain ⟨_, e, _⟩ := id p1; exact Heap.lt_size e
    refine call_zm (show s1.heap.IsTuple a its.toArray from p1) p2.isList fun g Z t1 t2 hk => wpAny_pyIter_zip Z.zp ?_
    have I2 : Inv X pins σ H1 { s1 with heap := g } := I1.kept (t' := s1.toks) hk
    refine ⟨s1.heap.objs.size + 4, [s1.heap.objs.size + 4, s1.heap.objs.size + 2, s1.heap.objs.size + 3, s1.heap.objs.size, s1.heap.objs.size + 1], _, _, H1, rfl, I2, turn_zm (PySem.W.ktu_apart s1.heap.objs.size a b la p2.lt), ⟨⟨_, _, Z⟩, t1, t2⟩, fun c hcm => ?_, q⟩
    have hle : s1.heap.objs.size ≤ c := by
      simp only [List.mem_cons, List.not_mem_nil, or_false] at hcm
      rcases hcm with r | r | r | r | r
      · rw [r]; exact Nat.le_add_right _ _
      · rw [r]; exact Nat.le_add_right _ _
      · rw [r]; exact Nat.le_add_right _ _
      · rw [r]; exact Nat.le_refl _
      · rw [r]; exact Nat.le_add_right _ _
    exact I1.fpOk hle (I1.hok.fresh hle)
section
variable {K : PySem.W.Frag} {a b : Addr} {xs ys : List V}
theorem walk_zm {n : Nat} (h1 : xs.length = n) (h2 : ys.length = n) : Walk (Itm K a b) n (fun H => SqT K H a xs ∧ SqL K H b ys) (YPair (fun i => xs[i]?) (fun i => ys[i]?)) := by
  refine ⟨fun i _ hi q => ⟨xs, ys, xs[i], ys[i], q.1, q.2, by simp [h1, hi], by simp [h2, hi]⟩, fun _ q => ⟨xs, ys, q.1, q.2, by omega⟩, fun i H v H' _ q y => ?_⟩
  obtain ⟨T, x, z, r1, r2, r3, r4, r5⟩ := y
  exact ⟨T, x, z, r1, r2, r3, r4 xs q.1, r5 ys q.2⟩
end
end FR
set_option Elab.async false
set_option linter.all false
set_option maxRecDepth 100000
/-! a, b, *c = a tuple -/
namespace FR
open PySem PySem.Spec PySem.Calls PyProof.Rows L2
section
variable {prog : Program} {w : World} {A : Around} {E : Value → Shared → Prop} {s : Shared}
open PySem.W in
theorem un_star {l : Addr} {items : Array Value} {n i : Nat} {Q : List Value → Shared → Prop} (hl : IsTup s.heap l items) (hh : A.handled = none) (hi : i < n) (hn : n ≤ items.size + 1) (hz : items.size ≤ 16384)
    (q : ∀ (g : Heap) (tk : Nat), (∀ b o, s.heap.get? b = some o → g.get? b = some o) →
      Q (items.toList.take i ++ [.ref g.objs.size] ++ (items.toList.drop i).drop (items.size + 1 - n)) { s with heap := g.push { cls := .type "list", data := .seq ((items.toList.drop i).take (items.size + 1 - n)).toArray }, toks := tk }) : wpAny (model prog w) A (unpackItems (.ref l) n (some i)) Q E s := by
  have bl : l < s.heap.objs.size := by obtain ⟨o, ho, _⟩ := id hl; exact Heap.lt_size ho
  have nl : l ≠ s.heap.objs.size := Nat.ne_of_lt bl
  unfold unpackItems; refine wpAny_bind ?_
  unfold notIterableAtAll; refine wpAny_bind (wpAny_specialOf hl.typeIs slot_tuple_iter.lookup ?_)
  refine wpAny_pure ?_; simp only [Bool.false_eq_true, if_false]
  refine wpAny_bind (wpAny_holding (iter_tuple hl ?_)); refine wpAny_bind (wpAny_holding (draw_tuple nl i 0 _ _ ⟨_, Heap.get?_push_size _ rfl, rfl, rfl⟩ (hl.push _) (by omega) fun g1 t1 s1 => ?_))
  have hl1 : IsTup g1 l items := (hl.push _).extBut s1.extBut nl
  rw [Nat.zero_add] at t1
  obtain ⟨oi, hoi, _⟩ := id t1
  obtain ⟨ol, hol, _⟩ := id hl1
  rw [List.drop_zero]
  have e1 : (items.toList.take i).length = i := by rw [List.length_take, Array.length_toList]; omega
  have e2 : (items.toList.drop i).length = items.size - i := by rw [List.length_drop, Array.length_toList]
  have e3 : (items.toList.drop i).length - (n - 1 - i) = items.size + 1 - n := by rw [e2]; omega
  rw [if_neg (show ¬ ((items.toList.take i).length < i) by omega)]
  have hW := Walks.tuple (prog := prog) (w := w) (A := A.in1) hh s.heap.objs.size l nl items
  refine wpAny_bind (wpAny_holding (kun_collect (s := { s with heap := g1 }) (T := "tuple_iterator") (.inr (.inr (.inr rfl))) hW (fun j u st => st.1.typeIs) (k := i) (by omega) ⟨t1, hl1⟩ (Heap.lt_size hoi) (Heap.lt_size hol) (fun g2 tk hk => ?_) (by rw [sizeLine_eq]; omega)))
  show wpAny _ _ (if (items.toList.drop i).length < n - 1 - i then _ else _) _ _ _; rw [if_neg (by rw [e2]; omega)]
  show wpAny _ _ (newList ((items.toList.drop i).take ((items.toList.drop i).length - (n - 1 - i))) >>= fun d => pure (items.toList.take i ++ [d] ++ (items.toList.drop i).drop ((items.toList.drop i).length - (n - 1 - i)))) _ _ _
  rw [e3]
  have hx : ∀ b o, s.heap.get? b = some o → g2.get? b = some o := fun b o e => hk b o (Nat.ne_of_lt (Heap.lt_size e)) (s1.extBut b o (Nat.ne_of_lt (Heap.lt_size e)) (Heap.get?_push_of_some _ e))
  refine wpAny_bind (wpAny_newList (wpAny_pure (q g2 tk hx)) ?_)
  rw [List.length_take, e2, sizeLine_eq]; omega
end
section
variable {X : Cx} {pos : Pos}
def gUnS (K : PySem.W.Frag) (n i : Nat) (t : TGs) : TG := fun v σ H Q => ∃ a xs, v = .ref a ∧ SqT K H a xs ∧ n ≤ xs.length + 1 ∧ xs.length ≤ 16384 ∧
  NewO (.lst ((xs.drop i).take (xs.length + 1 - n))) (fun d H' => t (xs.take i ++ [d] ++ (xs.drop i).drop (xs.length + 1 - n)) σ H' Q) H
theorem pg_unS {es : List Expr} {k : Nat} {t : TGs} {n i : Nat} (hc : X.calm = true) (h : PGs X es t)
    (hn : (assignEach es X.env).length = n := by rfl) (hst : (assignEach es X.env).findIdx? (·.1) = some i := by rfl) (hi : i < n := by decide) : PG X (.Tuple es k pos) (gUnS X.K n i t) := by
  refine ⟨fun pins s σ H v u Q I r hw => ?_⟩
  obtain ⟨a, xs, rfl, hq, hln, hz, hw⟩ := hw
  cases r
  obtain ⟨its, rv, ht, _⟩ := I.tuple hq
  have el := rv.length
  rw [assign_Tuple]
  refine wpAny_bind (wpAny_standAt ?_)
  unfold unpack
  rw [hn, hst]
  refine wpAny_bind (wpAny_holding (un_star (items := its.toArray) ht (I.ok.hd hc) hi (by simpa [← el] using hln) (by simpa [← el] using hz) fun g tk hk => ?_))
  have esz : its.toArray.size + 1 - n = xs.length + 1 - n := by simp [el]
  rw [esz]
  have rm : Vals ((xs.drop i).take (xs.length + 1 - n)) ((its.drop i).take (xs.length + 1 - n)) := (rv.drop i).take _
  have sm : ((xs.drop i).take (xs.length + 1 - n)).length ≤ sizeLine := by
    have : ((xs.drop i).take (xs.length + 1 - n)).length ≤ xs.length := by rw [List.length_take, List.length_drop]; omega
    exact Nat.le_trans this (Nat.le_trans hz (by rw [sizeLine_eq]; omega))
  have I0 : Inv X pins σ H { s with heap := g, toks := tk } := I.kept (t' := tk) hk
  have hf : H g.objs.size = none := I0.hok.fresh (Nat.le_refl _)
  have I1 := I0.laid (t' := tk) (o := .lst ((xs.drop i).take (xs.length + 1 - n))) (fun b o e => Heap.get?_push_of_some _ e) (Nat.le_refl _) ⟨sm, (its.drop i).take (xs.length + 1 - n), 0, rm, by simpa using Heap.get?_push_size _ rfl⟩
  exact h.run pins _ σ _ _ _ Q I1 (((rv.take i).append (.cons (show RelV (.ref g.objs.size) (.ref g.objs.size) from rfl) .nil)).append ((rv.drop i).drop _)) (hw.to g.objs.size _ hf (keep_new hf) upd_same)
theorem pgs_star {e : Expr} {p : Pos} {es : List Expr} {t : TG} {u : TGs} (h1 : PG X e t) (h2 : PGs X es u)
    (hs : (assignEach (.Starred e p :: es) X.env).map (·.2) = assign e X.env :: (assignEach es X.env).map (·.2) := by rfl) : PGs X (.Starred e p :: es) (gCons t u) := by
  refine ⟨fun pins s σ H vs us Q I r h => ?_⟩
  obtain ⟨v, vr, rfl, h⟩ := h
  cases r with
  | cons r rr =>
    rw [hs]
    exact assignInOrder_cons (thn (h1.run pins s σ H _ _ _ I r h) fun _ s1 ⟨σ1, H1, I1, q1⟩ => h2.run pins s1 σ1 H1 _ _ Q I1 rr q1)
end
end FR
set_option Elab.async false
set_option linter.all false
set_option maxRecDepth 100000
/-! list(d.values()), list(d.items()) -/
namespace FR
open PySem PySem.Spec PySem.Calls PyProof.Rows L2 L2.DX
open PySem.W (kdl_call kdl_values kdl_vals_eq dil_call DilG)
/-- the view d.values() at p -/
def valuesO (p d : Addr) : HO := .ext fun h => h.IsValuesView p d
theorem valuesO_ok {P : Program} {w : World} {H : Hp} {h : Heap} {p d : Addr} (e : h.get? p = some { cls := .type "dict_values", data := .fields #[.ref d] }) : ObjOk P w H h p (valuesO p d) :=
  ⟨⟨_, e, rfl, rfl⟩, ⟨_, e⟩, fun h1 h2 x k => let ⟨o, ho, r⟩ := x; ⟨o, k o ho, r⟩⟩
theorem KV.seconds {κ : Type} {kvs : List (κ × V)} {vs : List (κ × Value)} (r : KV kvs vs) : Vals (kvs.map (·.2)) (vs.map (·.2)) := by
  unfold KV at r
  induction r with
  | nil => exact .nil
  | cons h t ih => exact .cons h.2 ih
section
variable {X : Cx}
def rValsK : V → List V → Hp → VK → Prop := fun x xs H Q => ∃ (a : Addr) (kvs : List (L2.Key × V)), x = .ref a ∧ xs = [] ∧ H a = some (.dK kvs) ∧ ∀ p, H p = none → Q (.ref p) (upd H p (valuesO p a))
theorem mt_valuesK : MtR X "dict.values" rValsK := by
  intro pins s σ H x xs v us Q I rx rxs h
  obtain ⟨a, kvs, rfl, rfl, ha, q⟩ := h
  cases rx
  cases rxs
  obtain ⟨z, hd, vs, rel, dd⟩ := dk_of I.hok ha
  have hf : H s.heap.objs.size = none := I.hok.fresh (Nat.le_refl _)
  exact call_meetsIn PySem.F.slot_dict_values dd.typeIs PySem.F.entry_dict_values (PySem.F.args_dict_values_1 _) (meets_dict_values (mixKind X.prog X.w) a hd)
    ⟨⟨vs, dd⟩, ⟨.ref s.heap.objs.size, upd H s.heap.objs.size (valuesO s.heap.objs.size a), I.laid (t' := s.toks) (fun b u e => Heap.get?_push_of_some _ e) (Nat.le_refl _) (valuesO_ok (Heap.get?_push_size _ rfl)), rfl, q _ hf⟩⟩
def rItemsK : V → List V → Hp → VK → Prop := fun x xs H Q => ∃ (a : Addr) (kvs : List (L2.Key × V)), x = .ref a ∧ xs = [] ∧ H a = some (.dK kvs) ∧ ∀ p, H p = none → Q (.ref p) (upd H p (itemsO p a))
theorem mt_itemsK : MtR X "dict.items" rItemsK := by
  intro pins s σ H x xs v us Q I rx rxs h
  obtain ⟨a, kvs, rfl, rfl, ha, q⟩ := h
  cases rx
  cases rxs
  obtain ⟨z, hd, vs, rel, dd⟩ := dk_of I.hok ha
  have hf : H s.heap.objs.size = none := I.hok.fresh (Nat.le_refl _)
  exact call_meetsIn PySem.F.slot_dict_items dd.typeIs PySem.F.entry_dict_items (PySem.F.args_dict_items_1 _) (meets_dict_items (mixKind X.prog X.w) a hd)
    ⟨⟨vs, dd⟩, ⟨.ref s.heap.objs.size, upd H s.heap.objs.size (itemsO s.heap.objs.size a), I.laid (t' := s.toks) (fun b u e => Heap.get?_push_of_some _ e) (Nat.le_refl _) (itemsO_ok (Heap.get?_push_size _ rfl)), rfl, q _ hf⟩⟩
def rLVals : List V → Hp → VK → Prop := fun xs H Q => ∃ (p a : Addr) (kvs : List (L2.Key × V)), xs = [.ref p] ∧ H p = some (valuesO p a) ∧ H a = some (.dK kvs) ∧ NewO (.lst (kvs.map (·.2))) Q H
theorem call_lVals (hc : X.calm = true) : CallR X (.type "list") rLVals := by
  intro pins s σ H xs us Q I r h
  obtain ⟨p, a, kvs, rfl, hp, ha, q⟩ := h
  obtain rfl := Vals.ref1 r
  have view : s.heap.IsValuesView p a := (show ObjOk X.prog X.w H s.heap p (valuesO p a) from I.hok p _ hp).1
  obtain ⟨z, hd, vs, rel, dd⟩ := dk_of I.hok ha
  obtain ⟨ep, hat⟩ := dd.dictAt
  have hl : kvs.length = vs.length := Paired.length rel
  refine kdl_call (kdl_values (knd := mixKind X.prog X.w) (kvs := vs) (ep := ep)) (I.ok.hd hc) ⟨view, hat⟩ (by omega) fun h' tk acc c hk hS hacc => ?_
  have ev : acc.toList = vs.map (·.2) := kdl_vals_eq acc.toList (by rw [Array.length_toList]; exact hacc.1) fun j u hu => hacc.2 j u (by rw [← Array.getElem?_toList]; exact hu)
  have hf : H s.heap.objs.size = none := I.hok.fresh (Nat.le_refl _)
  have ok : ObjOk X.prog X.w (upd H s.heap.objs.size (.lst (kvs.map (·.2)))) h' s.heap.objs.size (.lst (kvs.map (·.2))) := ⟨by rw [List.length_map]; exact z, vs.map (·.2), c, KV.seconds rel, by rw [hS, ← ev]⟩
  exact ⟨.ref s.heap.objs.size, _, I.laid (t' := tk) hk (Nat.le_refl _) ok, rfl, q.to _ _ hf (keep_new hf) upd_same⟩
def rLItems : List V → Hp → VK → Prop := fun xs H Q => ∃ (p a : Addr) (kvs : List (L2.Key × V)), xs = [.ref p] ∧ H p = some (itemsO p a) ∧ H a = some (.dK kvs) ∧
  ∀ (H' : Hp) (l : Addr) (ps : List Addr), H l = none → Keep [] H H' → H' l = some (.lst (ps.map V.ref)) → Paired (fun p kv => H p = none ∧ H' p = some (.tup [kV kv.1, kv.2])) ps kvs → Q (.ref l) H'
theorem paired_of {α β : Type} {R : α → β → Prop} : ∀ {xs : List α} {ys : List β}, xs.length = ys.length → (∀ (j : Nat) (x : α) (y : β), xs[j]? = some x → ys[j]? = some y → R x y) → Paired R xs ys
  | [], [], _, _ => .nil
  | x :: xs, y :: ys, hl, h => .cons (h 0 x y rfl rfl) (paired_of (by simpa using hl) fun j a b ha hb => h (j + 1) a b (by simpa using ha) (by simpa using hb))
  | [], _ :: _, hl, _ => by simp at hl
  | _ :: _, [], hl, _ => by simp at hl
theorem paired_get {α β : Type} {R : α → β → Prop} {xs : List α} {ys : List β} (r : Paired R xs ys) : ∀ {j : Nat} {y : β}, ys[j]? = some y → ∃ x, xs[j]? = some x ∧ R x y := by
  induction r with
  | nil => intro j y h; simp at h
  | @cons a b as bs h t ih =>
    intro j y hy
    cases j with
    | zero => exact ⟨a, rfl, by simp at hy; subst hy; exact h⟩
    | succ j => exact ih (by simpa using hy)
theorem call_lItems (hc : X.calm = true) : CallR X (.type "list") rLItems := by
  intro pins s σ H xs us Q I r h
  obtain ⟨p, a, kvs, rfl, hp, ha, q⟩ := h
  obtain rfl := Vals.ref1 r
  have view : s.heap.IsItemsView p a := (show ObjOk X.prog X.w H s.heap p (itemsO p a) from I.hok p _ hp).1
  obtain ⟨z, hd, vs, rel, dd⟩ := dk_of I.hok ha
  have hl : kvs.length = vs.length := Paired.length rel
  obtain ⟨es, ep, raw, esz, ent⟩ := dd.raw
  refine dil_call (I.ok.hd hc) view raw (by omega) fun h' tk acc c as hk hS hal hG hacc => ?_
  have hf : H s.heap.objs.size = none := I.hok.fresh (Nat.le_refl _)
  have nd : as.Nodup := List.Pairwise.imp (fun h => Nat.ne_of_lt h) hG.rise
  have ok : ObjOk X.prog X.w (upd H s.heap.objs.size (.lst (as.map V.ref))) h' s.heap.objs.size (.lst (as.map V.ref)) :=
    ⟨by rw [List.length_map]; omega, as.map Value.ref, c, vals_maps V.ref Value.ref as fun _ _ => rfl, by rw [hS, ← hacc]⟩
  have I2 := I.laid (t' := tk) hk (Nat.le_refl _) ok
  have pr : ∀ (j : Nat) (b : Addr), as[j]? = some b → ∃ kv u1 u2, kvs[j]? = some kv ∧ RelV (kV kv.1) u1 ∧ RelV kv.2 u2 ∧ h'.get? b = some { cls := .type "tuple", data := .seq #[u1, u2] } := by
    intro j b hj
    obtain ⟨hj', e⟩ := hG.pairs j b hj
    have hlt : j < vs.length := by omega
    have hv : vs[j]? = some vs[j] := List.getElem?_eq_getElem hlt
    obtain ⟨kv, ek, r1, r2⟩ := paired_get rel hv
    obtain ⟨e1, e2⟩ := ent j hj' vs[j].1 vs[j].2 hv
    exact ⟨kv, _, _, ek, by rw [r1]; exact relV_key e1, by rw [e2]; exact r2, e⟩
  obtain ⟨H2, I3, g, qt⟩ := takeT (P := fun b ws => ∃ (j : Nat) (kv : L2.Key × V), as[j]? = some b ∧ kvs[j]? = some kv ∧ ws = [kV kv.1, kv.2]) I as _ I2 nd fun b hb => by
    obtain ⟨j, hj⟩ := List.mem_iff_getElem?.mp hb
    obtain ⟨kv, u1, u2, ek, r1, r2, hg⟩ := pr j b hj
    have hbl : s.heap.objs.size < b := hG.above b hb
    refine ⟨Nat.le_of_lt hbl, by rw [upd_ne (Nat.ne_of_gt hbl)]; exact I.hok.fresh (Nat.le_of_lt hbl), [kV kv.1, kv.2], ⟨j, kv, hj, ek, rfl⟩, fun H3 => ⟨(by rw [sizeLine_eq]; show 2 ≤ 16777216; omega), [u1, u2], .cons r1 (.cons r2 .nil), ⟨_, hg, rfl, 0, rfl⟩⟩⟩
  refine ⟨.ref s.heap.objs.size, H2, I3, rfl, q H2 s.heap.objs.size as hf (fun b o e _ => g b o (by rw [upd_ne (ne_of_none e hf)]; exact e)) (g _ _ upd_same) (paired_of (by omega) fun j b kv hj ek => ?_)⟩
  have hbm := List.mem_of_getElem? hj
  obtain ⟨ws, ⟨i, kv', hi, ek', rfl⟩, hH⟩ := qt b hbm
  have eij : i = j := (List.getElem?_inj (List.getElem?_eq_some_iff.mp hi).1 nd).mp (hi.trans hj.symm)
  subst eij
  rw [ek] at ek'
  cases ek'
  exact ⟨I.hok.fresh (Nat.le_of_lt (hG.above b hbm)), hH⟩
end
end FR
set_option Elab.async false
set_option linter.all false
set_option maxRecDepth 100000
/-! enumerate(text) -/
namespace FR
open PySem PySem.Spec PyProof.Rows L2
/-- the signs of a text, each with its place, in new pairs -/
def IteS (z : Str) : It :=
  ⟨fun i _ => i < z.cps.size, fun i H v H' => ∃ T c, v = .ref T ∧ H T = none ∧ H' = upd H T (.tup [.int (i : Nat), .str ⟨#[c]⟩]) ∧ z.cps[i]? = some c, fun i _ => i = z.cps.size⟩
theorem draws_str {prog : Program} {w : World} {A : Around} (hh : A.handled = none) (it : Addr) (x : Str) (t : Tok) :
    Draws prog w A it [it] x.cps.size (fun i v => ∃ c u, x.cps[i]? = some c ∧ v = .str ⟨#[c]⟩ u) (fun i h => h.IsStrIter it (strIterType x) x t i) := by
  rcases (show strIterType x = "str_ascii_iterator" ∨ strIterType x = "str_iterator" by unfold strIterType; split; exact .inl rfl; exact .inr rfl) with e | e
  · rw [e]; exact Draws.strAscii hh it x t
  · rw [e]; exact Draws.strWide hh it x t
theorem turn_enumS {P : Program} {w : World} {K : PySem.W.Frag} {elts : List Expr} {kk : Nat} {tpos : Pos} (z : Str) (t : Tok) (e it : Addr) :
    Turn P w K (.Tuple elts kk tpos) (IteS z) [e, it] e (fun i h => (∃ old, IsEnum h e it ((i : Nat) : Int) old) ∧ h.IsStrIter it (strIterType z) z t i ∧ e ≠ it) where
  mem := by simp
  obj := fun i h st b hb => by
    obtain ⟨⟨old, he⟩, ⟨o, ho, hc, hd⟩, _⟩ := st
    rcases (by simpa using hb : b = e ∨ b = it) with r | r
    · rw [r]; exact ⟨_, he, fun v q => nomatch q⟩
    · rw [r]; exact ⟨o, ho, fun v q => by rw [hd] at q; cases q⟩
  keep := fun i h g st k => by
    obtain ⟨⟨old, he⟩, ⟨o, ho, r⟩, hne⟩ := st
    exact ⟨⟨old, k e (by simp) _ he⟩, ⟨o, k it (by simp) o ho, r⟩, hne⟩
  item := by
    intro X hP hw hK hc i pins s σ H E I hf st hg
    subst hP hw hK
    obtain ⟨⟨old, he⟩, hit, hne⟩ := st
    have hel : e < s.heap.objs.size := Heap.lt_size he
    have hil : it < s.heap.objs.size := by obtain ⟨_, q, _⟩ := id hit; exact Heap.lt_size q
    have D := draws_str (prog := X.prog) (w := X.w) (A := X.A.in1) (show X.A.in1.handled = none from I.ok.hd hc) it z t
    refine wpAny_pyNext_enum_itemD D he hit hg hne (by simpa using hne) fun x g tk px ho hit' hT hsz hk => ?_
    obtain ⟨c, u, ec, rfl⟩ := px
    refine ⟨_, rfl, wpAny_letOwnedTupleGo_enum (s := { s with heap := g, toks := tk + 1 }) ho fun g2 he' sb => ?_⟩
    have hT2 : g2.get? s.heap.objs.size = some { cls := .type "tuple", data := .seq #[.int i tk, .str ⟨#[c]⟩ u] } := (sb.2 _ (Nat.ne_of_gt hel)).trans hT
    have new : ObjOk X.prog X.w (upd H s.heap.objs.size (.tup [.int (i : Nat), .str ⟨#[c]⟩])) g2 s.heap.objs.size (.tup [.int (i : Nat), .str ⟨#[c]⟩]) :=
      ⟨by show 2 ≤ sizeLine; decide, [.int i tk, .str ⟨#[c]⟩ u], .cons ⟨_, rfl⟩ (.cons ⟨_, rfl⟩ .nil), ⟨_, hT2, rfl, _, rfl⟩⟩
    have I1 : Inv X pins σ (upd H s.heap.objs.size (.tup [.int (i : Nat), .str ⟨#[c]⟩])) { s with heap := g2, toks := tk + 1 } :=
      I.turnedNew (ch := [e, it]) (fun b ob hb q => (sb.2 b (fun r => hb (by simp [r]))).trans (hk b ob (fun r => hb (by simp [r])) (fun r => hb (by simp [r])) q)) hf (Nat.le_refl _) new
    refine ⟨.ref s.heap.objs.size, _, I1, rfl, ⟨_, c, rfl, I.hok.fresh (Nat.le_refl _), rfl, ec⟩, ⟨⟨Value.str ⟨#[c]⟩ u, ?_⟩, ?_, hne⟩, fun b hb => ?_⟩
    · rw [show ((i + 1 : Nat) : Int) = (i : Int) + 1 by omega]; exact he'
    · obtain ⟨o, eo, r⟩ := hit'
      exact ⟨o, (sb.2 it (Ne.symm hne)).trans eo, r⟩
    · have hb' : b < s.heap.objs.size := by
        rcases (by simpa using hb : b = e ∨ b = it) with r | r
        · rw [r]; exact hel
        · rw [r]; exact hil
      rw [upd_ne (Nat.ne_of_lt hb')]
      exact (hf b hb).1
  done := by
    intro X hP hw hK hc i pins s σ H E I hf st hg
    subst hP hw hK
    obtain ⟨⟨old, he⟩, hit, hne⟩ := st
    obtain ⟨f0, f1, f2, f3, f4, f5⟩ := hf it (by simp)
    have D := draws_str (prog := X.prog) (w := X.w) (A := X.A.in1) (show X.A.in1.handled = none from I.ok.hd hc) it z t
    have ei : i = z.cps.size := hg
    subst ei
    refine wpAny_pyNext_enum_endD D he hit fun g eb => ⟨rfl, I.turned (t' := s.toks) (fun b o hb q => eb b o hb q) f0 f1 f3 f4 f5⟩
  self := fun A i s Q E st h => let ⟨⟨_, he⟩, _⟩ := st; wpAny_pyIter_enum he h
def iEnumS (ta : TA) : TI := fun σ H R => ta σ H fun vs H1 => ∃ z, vs = [.str z] ∧ R (IteS z) H1
theorem pi_enumS {X : Cx} {e : Expr} {ta : TA} {p pos tpos : Pos} {elts : List Expr} {kk : Nat} (hg : Gl X "enumerate") (hm : X.mg "enumerate" = none) (ha : PA X [e] ta) (hs : starEach [e] X.env = [(false, eval e X.env)] := by rfl) :
    PI X (.Tuple elts kk tpos) (.Call (.Name "enumerate" p) [e] [] pos) (iEnumS ta) := by
  refine ⟨fun pins s σ H R I h => Call_ (ld_blt I hg hm boot_enumerate (PyProof.Rows.callWith_type1 (thn (ha.run pos pins s σ H _ I h) fun us s1 hh => ?_) hs rfl))⟩
  obtain ⟨vs, H1, I1, r1, z, rfl, q⟩ := hh
  obtain ⟨u, rfl, ru⟩ := r1.one
  obtain ⟨t, rfl⟩ := ru
  refine call_enumerate_str fun g he hit hsz hk => wpAny_pyIter_enum he ?_
  have I2 : Inv X pins σ H1 { s1 with heap := g } := I1.kept (t' := s1.toks) hk
  refine ⟨s1.heap.objs.size + 1, [s1.heap.objs.size + 1, s1.heap.objs.size], _, _, H1, rfl, I2, turn_enumS z t (s1.heap.objs.size + 1) s1.heap.objs.size, ⟨⟨.none, he⟩, hit, Nat.succ_ne_self _⟩, fun b hb => ?_, q⟩
  have hle : s1.heap.objs.size ≤ b := by
    rcases (by simpa using hb : b = s1.heap.objs.size + 1 ∨ b = s1.heap.objs.size) with r | r
    · rw [r]; exact Nat.le_add_right _ _
    · rw [r]; exact Nat.le_refl _
  exact I1.fpOk hle (I1.hok.fresh hle)
theorem walk_enumS {z : Str} : Walk (IteS z) z.cps.size (fun _ => True) (YPair (fun i => some (.int (i : Nat))) (fun i => z.cps[i]?.map fun c => .str ⟨#[c]⟩)) :=
  ⟨fun _ _ hi _ => hi, fun _ _ => rfl, fun i H v H' _ _ y => by
    obtain ⟨T, c, r1, r2, r3, r4⟩ := y
    exact ⟨T, .int (i : Nat), .str ⟨#[c]⟩, r1, r2, r3, rfl, by show (z.cps[i]?).map _ = _; rw [r4]; rfl⟩⟩
end FR
set_option Elab.async false
set_option linter.all false
set_option maxRecDepth 100000
/-! a new dict that is walked -/
namespace FR
open PySem PySem.Spec PyProof.Rows L2
def tFrz (t : TE) : TE := fun σ H Q => t σ H fun x H1 => ∃ (d : Addr) (u : HO), x = .ref d ∧ H1 d = some u ∧ Mut (some u) ∧ ∀ od, Q x (upd H1 d (.frz od u))
theorem pe_frz {X : Cx} {e : Expr} {t : TE} (h : PE X e t) : PE X e (tFrz t) := ⟨fun pins s σ H Q I hq => thn (h.run pins s σ H _ I hq) fun v s1 hh => by
  obtain ⟨x, H1, I1, r, d, u, ex, hd, mu, q⟩ := hh
  obtain ⟨od, I2⟩ := I1.lock hd mu
  exact ⟨x, _, I2, r, q od⟩⟩
theorem pe_nev {X : Cx} {e : Expr} : PE X e (fun _ _ _ => False) := ⟨fun _ _ _ _ _ _ h => h.elim⟩
def rNotKd (K : PySem.W.Frag) (d : Addr) : R2 := fun x y H Q => ∃ (z : Str) (r : Option Value), x = .str z ∧ y = .ref d ∧ PySem.W.nsIn K d z = some r ∧ Q (.bl (!r.isSome)) H
theorem op_notKd {X : Cx} {K : PySem.W.Frag} {w : World} {d : Addr} (hk : X.K = K) (hw : X.w = w) (D : ∃ es n, KDict K w d es n) : OpR X (compareOp .NotIn) (rNotKd K d) := by
  subst hk hw
  obtain ⟨es, n, D⟩ := D
  exact op_notIn_kd D
theorem ix_tupK {X : Cx} {K : PySem.W.Frag} (h : X.K = K) : IxR X (rIxT K) := h ▸ ix_tup
/-- what no call reaches -/
theorem never_elim {P : Prop} (h : False) : P := h.elim
end FR
set_option Elab.async false
set_option linter.all false
set_option maxRecDepth 100000
set_option maxHeartbeats 4000000
/-! sets of texts: set(texts), its len, sorted(set) -/
namespace FR
open PySem PySem.Spec PyProof.Rows PySem.Froz
/-- the texts that were met, each once -/
def once (l : List Str) (xs : List Str) : List Str := xs.foldl (fun l x => if x ∈ l then l else x :: l) l
/-- a payload that holds these texts and that can be walked -/
structure Sx (P : Program) (w : World) (D : SD) (l : List Str) : Prop where
  tx : TxOk P w D l
  ris : L2.Ris D.2.2.place.toList
  led : w.params.followText "set-order" = true ∨ D.2.2.led = true
  nd : l.Nodup
section
variable {P : Program} {w : World} {A : Around} {E : Value → Shared → Prop}
theorem Sx.add {D : SD} {l : List Str} {k : Str} (u : Tok) (F : Sx P w D l) (m : k ∉ l) : Sx P w (addTx (hashStr w k) (.str k u) D) (k :: l) := by
  have r1 := L2.layNew_ris D.2.2 D.1 (hashStr w k) (.str k u) F.ris
  have l1 := L2.layNew_led D.2.2 D.1 (hashStr w k) (.str k u)
  have led1 : w.params.followText "set-order" = true ∨ (layNew D.2.2 D.1 (hashStr w k) (.str k u)).2.1.led = true := by rw [l1]; exact F.led
  refine ⟨add_ok u F.tx, ?_, ?_, List.nodup_cons.mpr ⟨m, F.nd⟩⟩
  all_goals
    unfold addTx tailTx
    generalize layNew D.2.2 D.1 (hashStr w k) (.str k u) = Z at r1 led1 ⊢
    obtain ⟨es1, t1, wd, gv⟩ := Z
    dsimp only at r1 led1 ⊢
    by_cases c : t1.plain = true
  all_goals first | rw [if_pos c] | rw [if_neg c]
  all_goals split
  all_goals first
    | exact L2.relayAll_ris _ _ _
    | exact r1
    | exact led1
    | (dsimp only; rw [L2.relayAll_led]; exact led1)
theorem Sx.new {t : SetTable} {ep : Nat} (w : World) (hf : t.fits 0 = true) (hr : L2.Ris t.place.toList) (hl : w.params.followText "set-order" = true ∨ t.led = true) : Sx P w (#[], ep, t) [] := ⟨TxOk.nil hf, hr, hl, List.nodup_nil⟩
theorem fresh_led (w : World) : w.params.followText "set-order" = true ∨ (!w.params.followText "set-order") = true := by
  cases w.params.followText "set-order"
  · exact .inr rfl
  · exact .inl rfl
theorem Sx.fresh (w : World) : Sx P w (#[], 0, .fresh 0 0 (!w.params.followText "set-order")) [] := Sx.new w rfl List.Pairwise.nil (fresh_led w)
/-- the rest of the texts of a source into the set -/
theorem upd_txs {I a : Addr} {fp wr : List Addr} {G : Array GenState → Array GenState → Prop} {n : Nat} {Pv : Nat → Value → Prop} {St : Nat → Shared → Prop} {R : Result → Shared → Prop} {T : String} {xs : List Str}
    (W : WalksS P w A.in1 I fp wr G n Pv St) (na : a ∉ fp) (hn : n = xs.length) (hval : ∀ i v, Pv i v → ∃ x t, xs[i]? = some x ∧ v = .str x t) :
    ∀ (r : List Str) (i : Nat) (D : SD) (l : List Str) (s : Shared), xs.drop i = r → i ≤ n → St i s → s.heap.get? a = some (sObj T D) → Sx P w D l → l.length + r.length < scanBound →
      (∀ (s' : Shared) (D' : SD), Moved (a :: wr) G s s' → s'.heap.get? a = some (sObj T D') → Sx P w D' (once l r) → R (.ok (.ret .none)) s') →
      codeAny (model P w) A (.builtin "set.update.loop" ⟨[.ref a, .ref I], []⟩) R s
  | [], i, D, l, s, dr, hi, st, ha, F, room, q => by
    have e : i = n := by
      have := List.drop_eq_nil_iff.mp dr
      omega
    subst e
    refine codeAny_builtin PyProof.Rows.F.entry_set_update_loop ?_
    rw [Around.under_plainId PyProof.Rows.F.plain_set_update_loop _]
    show wpAny _ A.in1 (pyNext (.ref I) >>= fun _ => _) _ _ s
    refine wpAny_bind (W.done s _ _ st fun s' mv => ?_)
    show wpAny _ A.in1 (ret Value.none) _ _ _
    exact wpAny_pure (q s' D (mv.mono fun b hb => List.mem_cons_of_mem _ hb) (mv.heap a _ (fun h => na (W.sub _ h)) ha) F)
  | c :: r, i, D, l, s, dr, hi, st, ha, F, room, q => by
    have lt : i < xs.length := by
      rcases Nat.lt_or_ge i xs.length with z | z
      · exact z
      · rw [List.drop_eq_nil_iff.mpr z] at dr
        cases dr
    have dr' := List.drop_eq_getElem_cons lt
    rw [dr] at dr'
    have room2 : l.length + (r.length + 1) < scanBound := room
    obtain ⟨ec, dr2⟩ := List.cons.inj dr'
    refine codeAny_builtin PyProof.Rows.F.entry_set_update_loop ?_
    rw [Around.under_plainId PyProof.Rows.F.plain_set_update_loop _]
    show wpAny _ A.in1 (pyNext (.ref I) >>= fun _ => _) _ _ s
    refine wpAny_bind (W.item i s _ _ (by omega) st fun v s1 hv st1 mv => ?_)
    obtain ⟨x, t, ex, rfl⟩ := hval i v hv
    obtain rfl : x = c := by rw [List.getElem?_eq_getElem lt] at ex; rw [ec]; exact (Option.some.inj ex).symm
    have ha1 := mv.heap a _ (fun h => na (W.sub _ h)) ha
    have mv1 : Moved (a :: wr) G s s1 := mv.mono fun b hb => List.mem_cons_of_mem _ hb
    show wpAny _ A.in1 (holding [Value.str x t] (setAdd a (.str x t)) >>= fun _ => _) _ _ _
    refine wpAny_bind (wpAny_holding ?_)
    unfold setAdd
    refine wpAny_holding (wpAny_bind ((strKind P w).pyHash (k := x) (is_str _ _) ?_))
    have on : ∀ {s2 : Shared} {D2 : SD} {l2 : List Str}, St (i + 1) s2 → Moved (a :: wr) G s s2 → s2.heap.get? a = some (sObj T D2) → Sx P w D2 l2 → l2.length ≤ l.length + 1 → once l2 r = once l (x :: r) →
        codeAny (model P w) A (.builtin "set.update.loop" ⟨[.ref a, .ref I], []⟩) R s2 := fun {s2 D2 l2} st2 m2 a2 F2 le e =>
      upd_txs W na hn hval r (i + 1) D2 l2 s2 dr2.symm (by omega) st2 a2 F2 (by omega) fun s' D' m' a' F' => q s' D' (Moved.trans W.gtrans m2 m') a' (by rw [← e]; exact F')
    by_cases m : x ∈ l
    · refine add_there (s := { s1 with toks := s1.toks + 1 }) ha1 F.tx m (by omega) ?_
      refine wpAny_pure ⟨plainId_quiet PyProof.Rows.F.plain_set_update_loop _, on (W.frame _ s1 s1.heap _ st1 (Nat.le_succ _) fun b _ o e => e) (mv1.then_heap (Nat.le_succ _) fun b o _ e => e) ha1 F (by omega) ?_⟩
      show once l r = once l (x :: r)
      unfold once
      rw [List.foldl_cons, if_pos m]
    · refine add_x (l := l) (D := D) (s := { s1 with toks := s1.toks + 1 }) ha1 F.tx m (by omega) ?_
      refine wpAny_pure ⟨plainId_quiet PyProof.Rows.F.plain_set_update_loop _, on (W.frame _ s1 _ _ st1 (Nat.le_succ _) fun b hb o e => ?_) (mv1.then_heap (Nat.le_succ _) fun b o hb e => ?_) (get_upd _ ha1 rfl) (F.add t m) (Nat.le_refl _) ?_⟩
      · exact PySem.Heap.get?_update_of_ne _ (fun h : a = b => na (by rw [h]; exact hb)) e
      · exact PySem.Heap.get?_update_of_ne _ (fun h : a = b => hb (by rw [h]; exact List.mem_cons_self ..)) e
      · show once (x :: l) r = once l (x :: r)
        unfold once
        rw [List.foldl_cons, if_neg m]
/-- what set(xs) leaves -/
abbrev SetLeft (P : Program) (w : World) (s : Shared) (xs : List Str) (Q : Value → Shared → Prop) : Prop :=
  ∀ (h' : Heap) (tk : Nat) (D : SD), h'.get? s.heap.objs.size = some (sObj "set" D) → Sx P w D (once [] xs) → (∀ b o, s.heap.get? b = some o → h'.get? b = some o) → Q (.ref s.heap.objs.size) { s with heap := h', toks := tk }
theorem call_set_L {s : Shared} {p : Addr} {items : Array Value} {xs : List Str} {Q : Value → Shared → Prop} (hh : A.handled = none) (hp : s.heap.IsList p items) (hx : StrsAre items.toList xs) (hb : xs.length < scanBound)
    (h : SetLeft P w s xs Q) : wpAny (model P w) A (call (.type "set") [.ref p]) Q E s := by
  have hsz : items.size = xs.length := by
    have := hx.length
    rw [Array.length_toList] at this
    exact this
  obtain ⟨c, tl, hmro⟩ := PySem.F.called_set.mro
  have hmade := PySem.F.called_set.made
  have hsub := PySem.F.called_set.sub
  refine wpAny_call (codeAny_of_tree ?_)
  show wpAny _ _ (callAny (.type "set") _) _ _ _
  refine wpAny_pure ⟨Code.quiet_builtin _ (by decide +kernel), codeAny_builtin PySem.F.entry_type_call ?_⟩
  rw [Around.under_plain (weight_type_call_type "set" [.ref p] []) rfl]
  have h1 := PySem.F.called_set.notType
  have h2 := PySem.F.called_set.canCreate
  have hct := PySem.F.typeCall_set_1 (.ref p)
  repeat (any_goals (first | assumption | wp_step))
  let S0 : Obj := { cls := .type "set", dict := none, data := .set #[] 0 (.fresh 0 0 (!w.params.followText "set-order")) }
  refine codeAny_mono (L2.code_set_led1 (.ref p) (E := E) (Q₁ := fun obj s1 => obj = .ref s.heap.objs.size ∧ s1 = { s with heap := s.heap.push S0 }) ⟨rfl, rfl⟩) fun r s1 hr => ?_
  match r, hr with
  | .error e, hr => exact hr
  | .ok (.ret obj), hr =>
    obtain ⟨rfl, rfl⟩ := hr
    have hS : (s.heap.push S0).get? s.heap.objs.size = some S0 := Heap.get?_push_size _ rfl
    have hT : Shared.TypeIs { s with heap := s.heap.push S0 } (.ref s.heap.objs.size) "set" := ⟨_, hS, rfl⟩
    have hli := PySem.F.called_set.init.lookup
    have hbi := PySem.F.called_set.init.bind (.ref s.heap.objs.size)
    repeat (any_goals (first | assumption | wp_step))
    refine codeAny_mono (codeAny_call_builtin (R := wants (fun r s2 => r = .none ∧ ∃ (h' : Heap) (tk : Nat) (D : SD), s2 = { s with heap := h', toks := tk } ∧ h'.get? s.heap.objs.size = some (sObj "set" D) ∧ Sx P w D (once [] xs) ∧
      (∀ b o, s.heap.get? b = some o → h'.get? b = some o)) E) PySem.F.called_set.init.plain PySem.F.entry_set_init (check_set_init_1 hT ?_)) fun r2 s2 hr2 => ?_
    · have hp1 : (s.heap.push S0).IsList p items := hp.push _
      obtain ⟨ol, hol, hcl, nl, hdl⟩ := hp
      obtain ⟨ocls, odict, odata, oslots⟩ := ol
      simp only at hcl hdl
      subst hcl; subst hdl
      have hol' := Heap.get?_push_of_some S0 hol
      have hsls := PySem.F.sub_list_set
      have hslf := PySem.F.sub_list_frozenset
      have hne : (Value.type "list" == Value.type "dict") = false := by decide
      unfold Builtin.«set.__init__» noKeywords Builtin.Frozenset.updateFrom
      generalize hPI : pyIter = PI
      wp_walk
      subst hPI
      refine wpAny_pyIter_list hp1 ?_
      refine wpAny_bind (wpAny_runValue ?_)
      have hz1 : (s.heap.push S0).objs.size = s.heap.objs.size + 1 := Heap.size_push ..
      have hps : p < s.heap.objs.size := Heap.lt_size hol
      have nI : p ≠ (s.heap.push S0).objs.size := Nat.ne_of_lt (by rw [hz1]; exact Nat.lt_succ_of_lt hps)
      have nS : s.heap.objs.size ≠ (s.heap.push S0).objs.size := Nat.ne_of_lt (by rw [hz1]; exact Nat.lt_succ_self _)
      refine upd_txs (T := "set") (xs := xs) ((Walks.list (by simp [hh]) _ p nI items).toS) (a := s.heap.objs.size) ?_ hsz (fun i v hv => ?_) xs 0 (#[], 0, .fresh 0 0 (!w.params.followText "set-order")) [] _ rfl (Nat.zero_le _)
        ⟨⟨_, Heap.get?_push_size _ rfl, rfl, rfl⟩, hp1.push _⟩ (Heap.get?_push_of_some _ hS) (Sx.fresh w) (by simpa using hb) fun s' D' mv a' F' => ?_
      · simp only [List.mem_cons, List.not_mem_nil, or_false, not_or]
        exact ⟨nS, Nat.ne_of_gt hps⟩
      · obtain ⟨t, e⟩ := SS.strs_at hx i v (by rw [Array.getElem?_toList]; exact hv)
        have hi : i < xs.length := by rw [← hsz]; exact (Array.getElem?_eq_some_iff.mp hv).1
        refine ⟨xs[i], t, List.getElem?_eq_getElem hi, ?_⟩
        rw [e, List.getD_eq_getElem?_getD, List.getElem?_eq_getElem hi]
        rfl
      · obtain ⟨h', g2, d', tk', os'⟩ := s'
        have eg : g2 = s.gens := mv.gens
        have ed : d' = s.drawn := mv.drawn
        have eo : os' = s.os := mv.os
        subst eg; subst ed; subst eo
        show wpAny _ _ _ _ _ _
        refine wpAny_pure ?_
        show wpAny _ _ (ret Value.none) _ _ _
        refine wpAny_pure ⟨rfl, h', tk', D', rfl, a', F', fun b o e => ?_⟩
        have hb0 : b < s.heap.objs.size := Heap.lt_size e
        exact mv.heap b o (by simp only [List.mem_cons, List.not_mem_nil, or_false, not_or]; exact ⟨Nat.ne_of_lt hb0, Nat.ne_of_lt (by rw [hz1]; exact Nat.lt_succ_of_lt hb0)⟩) (Heap.get?_push_of_some _ (Heap.get?_push_of_some _ e))
    · match r2, hr2 with
      | .error e, hr2 => exact hr2
      | .ok (.ret r), hr2 =>
        obtain ⟨rfl, h', tk, D, rfl, g1, g2, g4⟩ := hr2
        repeat (any_goals (first | assumption | wp_step))
        exact h _ _ _ g1 g2 g4
      | .ok .next, hr2 => exact hr2.elim
      | .ok .brk, hr2 => exact hr2.elim
      | .ok .cont, hr2 => exact hr2.elim
  | .ok .next, hr => exact hr.elim
  | .ok .brk, hr => exact hr.elim
  | .ok .cont, hr => exact hr.elim
theorem call_set_T {s : Shared} {p : Addr} {items : Array Value} {xs : List Str} {Q : Value → Shared → Prop} (hh : A.handled = none) (hp : s.heap.IsTuple p items) (hx : StrsAre items.toList xs) (hb : xs.length < scanBound)
    (h : SetLeft P w s xs Q) : wpAny (model P w) A (call (.type "set") [.ref p]) Q E s := by
  have hsz : items.size = xs.length := by
    have := hx.length
    rw [Array.length_toList] at this
    exact this
  obtain ⟨c, tl, hmro⟩ := PySem.F.called_set.mro
  have hmade := PySem.F.called_set.made
  have hsub := PySem.F.called_set.sub
  refine wpAny_call (codeAny_of_tree ?_)
  show wpAny _ _ (callAny (.type "set") _) _ _ _
  refine wpAny_pure ⟨Code.quiet_builtin _ (by decide +kernel), codeAny_builtin PySem.F.entry_type_call ?_⟩
  rw [Around.under_plain (weight_type_call_type "set" [.ref p] []) rfl]
  have h1 := PySem.F.called_set.notType
  have h2 := PySem.F.called_set.canCreate
  have hct := PySem.F.typeCall_set_1 (.ref p)
  repeat (any_goals (first | assumption | wp_step))
  let S0 : Obj := { cls := .type "set", dict := none, data := .set #[] 0 (.fresh 0 0 (!w.params.followText "set-order")) }
  refine codeAny_mono (L2.code_set_led1 (.ref p) (E := E) (Q₁ := fun obj s1 => obj = .ref s.heap.objs.size ∧ s1 = { s with heap := s.heap.push S0 }) ⟨rfl, rfl⟩) fun r s1 hr => ?_
  match r, hr with
  | .error e, hr => exact hr
  | .ok (.ret obj), hr =>
    obtain ⟨rfl, rfl⟩ := hr
    have hS : (s.heap.push S0).get? s.heap.objs.size = some S0 := Heap.get?_push_size _ rfl
    have hT : Shared.TypeIs { s with heap := s.heap.push S0 } (.ref s.heap.objs.size) "set" := ⟨_, hS, rfl⟩
    have hli := PySem.F.called_set.init.lookup
    have hbi := PySem.F.called_set.init.bind (.ref s.heap.objs.size)
    repeat (any_goals (first | assumption | wp_step))
    refine codeAny_mono (codeAny_call_builtin (R := wants (fun r s2 => r = .none ∧ ∃ (h' : Heap) (tk : Nat) (D : SD), s2 = { s with heap := h', toks := tk } ∧ h'.get? s.heap.objs.size = some (sObj "set" D) ∧ Sx P w D (once [] xs) ∧
      (∀ b o, s.heap.get? b = some o → h'.get? b = some o)) E) PySem.F.called_set.init.plain PySem.F.entry_set_init (check_set_init_1 hT ?_)) fun r2 s2 hr2 => ?_
    · have hp1 : (s.heap.push S0).IsTuple p items := hp.push _
      obtain ⟨ol, hol, hcl, nl, hdl⟩ := hp
      obtain ⟨ocls, odict, odata, oslots⟩ := ol
      simp only at hcl hdl
      subst hcl; subst hdl
      have hol' := Heap.get?_push_of_some S0 hol
      have hsls := PySem.F.sub_tuple_set
      have hslf := PySem.F.sub_tuple_frozenset
      have hne : (Value.type "tuple" == Value.type "dict") = false := by decide
      unfold Builtin.«set.__init__» noKeywords Builtin.Frozenset.updateFrom
      generalize hPI : pyIter = PI
      wp_walk
      subst hPI
      refine wpAny_pyIter_tuple hp1 ?_
      refine wpAny_bind (wpAny_runValue ?_)
      have hz1 : (s.heap.push S0).objs.size = s.heap.objs.size + 1 := Heap.size_push ..
      have hps : p < s.heap.objs.size := Heap.lt_size hol
      have nI : p ≠ (s.heap.push S0).objs.size := Nat.ne_of_lt (by rw [hz1]; exact Nat.lt_succ_of_lt hps)
      have nS : s.heap.objs.size ≠ (s.heap.push S0).objs.size := Nat.ne_of_lt (by rw [hz1]; exact Nat.lt_succ_self _)
      refine upd_txs (T := "set") (xs := xs) ((Walks.tuple (by simp [hh]) _ p nI items).toS) (a := s.heap.objs.size) ?_ hsz (fun i v hv => ?_) xs 0 (#[], 0, .fresh 0 0 (!w.params.followText "set-order")) [] _ rfl (Nat.zero_le _)
        ⟨⟨_, Heap.get?_push_size _ rfl, rfl, rfl⟩, hp1.push _⟩ (Heap.get?_push_of_some _ hS) (Sx.fresh w) (by simpa using hb) fun s' D' mv a' F' => ?_
      · simp only [List.mem_cons, List.not_mem_nil, or_false, not_or]
        exact ⟨nS, Nat.ne_of_gt hps⟩
      · obtain ⟨t, e⟩ := SS.strs_at hx i v (by rw [Array.getElem?_toList]; exact hv)
        have hi : i < xs.length := by rw [← hsz]; exact (Array.getElem?_eq_some_iff.mp hv).1
        refine ⟨xs[i], t, List.getElem?_eq_getElem hi, ?_⟩
        rw [e, List.getD_eq_getElem?_getD, List.getElem?_eq_getElem hi]
        rfl
      · obtain ⟨h', g2, d', tk', os'⟩ := s'
        have eg : g2 = s.gens := mv.gens
        have ed : d' = s.drawn := mv.drawn
        have eo : os' = s.os := mv.os
        subst eg; subst ed; subst eo
        show wpAny _ _ _ _ _ _
        refine wpAny_pure ?_
        show wpAny _ _ (ret Value.none) _ _ _
        refine wpAny_pure ⟨rfl, h', tk', D', rfl, a', F', fun b o e => ?_⟩
        have hb0 : b < s.heap.objs.size := Heap.lt_size e
        exact mv.heap b o (by simp only [List.mem_cons, List.not_mem_nil, or_false, not_or]; exact ⟨Nat.ne_of_lt hb0, Nat.ne_of_lt (by rw [hz1]; exact Nat.lt_succ_of_lt hb0)⟩) (Heap.get?_push_of_some _ (Heap.get?_push_of_some _ e))
    · match r2, hr2 with
      | .error e, hr2 => exact hr2
      | .ok (.ret r), hr2 =>
        obtain ⟨rfl, h', tk, D, rfl, g1, g2, g4⟩ := hr2
        repeat (any_goals (first | assumption | wp_step))
        exact h _ _ _ g1 g2 g4
      | .ok .next, hr2 => exact hr2.elim
      | .ok .brk, hr2 => exact hr2.elim
      | .ok .cont, hr2 => exact hr2.elim
  | .ok .next, hr => exact hr.elim
  | .ok .brk, hr => exact hr.elim
  | .ok .cont, hr => exact hr.elim

/-- the set at a, as the walk knows it -/
def SetS (P : Program) (w : World) (a : Addr) (l : List Str) : L2.HO := .ext fun h => ∃ D, h.get? a = some (sObj "set" D) ∧ Sx P w D l
end
section
open L2
variable {X : Cx}
theorem setS_new {P : Program} {w : World} {H : Hp} {h : Heap} {a : Addr} {D : SD} {l : List Str} (g : h.get? a = some (sObj "set" D)) (F : Sx P w D l) : ObjOk P w H h a (SetS P w a l) :=
  ⟨⟨D, g, F⟩, ⟨_, g⟩, fun _ _ ⟨D', g', F'⟩ k => ⟨D', k _ g', F'⟩⟩
theorem setS_get {pins : List (Addr × Obj)} {σ : L2.St} {H : Hp} {s : Shared} {a : Addr} {l : List Str} (I : Inv X pins σ H s) (ha : H a = some (SetS X.prog X.w a l)) : ∃ D, s.heap.get? a = some (sObj "set" D) ∧ Sx X.prog X.w D l := (I.hok a _ ha).1
/-- the texts of a list or a tuple -/
def TxSq (K : PySem.W.Frag) (H : Hp) (x : V) (xs : List Str) : Prop := ∃ p, x = .ref p ∧ (SqL K H p (xs.map V.str) ∨ SqT K H p (xs.map V.str))
theorem call_set_txs {A : Around} {E : Value → Shared → Prop} {pins : List (Addr × Obj)} {σ : L2.St} {H : Hp} {s : Shared} {x : V} {u : Value} {xs : List Str} {Q : Value → Shared → Prop} (I : Inv X pins σ H s) (hh : A.handled = none) (r : RelV x u) (hx : TxSq X.K H x xs) (hb : xs.length < scanBound)
    (h : SetLeft X.prog X.w s xs Q) : wpAny (model X.prog X.w) A (call (.type "set") [u]) Q E s := by
  obtain ⟨p, rfl, hq | hq⟩ := hx
  · cases r
    obtain ⟨its, rv, pl, hz⟩ := I.list hq
    exact call_set_L hh pl.isList (by simpa using rv.strs) hb h
  · cases r
    obtain ⟨its, rv, pl, hz⟩ := I.tuple hq
    exact call_set_T hh pl (by simpa using rv.strs) hb h
/-- set(xs) -/
def rSetS (K : PySem.W.Frag) (P : Program) (w : World) : List V → Hp → VK → Prop := fun vs H Q => ∃ x xs, vs = [x] ∧ TxSq K H x xs ∧ xs.length < 64 ∧ ∀ a, H a = none → Q (.ref a) (upd H a (SetS P w a (once [] xs)))
theorem cr_setS (hc : X.calm = true) : CallR X (.type "set") (rSetS X.K X.prog X.w) := by
  intro pins s σ H vs us Q I r h
  obtain ⟨x, xs, rfl, hx, h64, q⟩ := h
  obtain ⟨u, rfl, rx⟩ := vals1 r
  refine call_set_txs I (I.ok.hd hc) rx hx (by unfold scanBound; omega) fun h' tk D g F k => ?_
  exact ⟨.ref _, upd H s.heap.objs.size (SetS X.prog X.w s.heap.objs.size (once [] xs)), I.laid (t' := tk) k (Nat.le_refl _) (setS_new g F), rfl, q _ (I.hok.fresh (Nat.le_refl _))⟩
/-- len(set(e)) -/
def tLenSetS (K : PySem.W.Frag) (ta : TE) : TE := fun σ H Q => ta σ H fun x H1 => ∃ xs, TxSq K H1 x xs ∧ xs.length < 64 ∧ Q (.int ((once [] xs).length : Nat)) H1
theorem once_len : ∀ (xs l : List Str), (once l xs).length ≤ l.length + xs.length
  | [], l => Nat.le_refl _
  | c :: r, l => by
    unfold once
    rw [List.foldl_cons]
    have h1 := once_len r l
    have h2 := once_len r (c :: l)
    unfold once at h1 h2
    split
    · simp only [List.length_cons] at h1 ⊢; omega
    · simp only [List.length_cons] at h2 ⊢; omega
theorem once_mem : ∀ (xs l : List Str) (x : Str), x ∈ once l xs ↔ x ∈ l ∨ x ∈ xs
  | [], l, x => by simp [once]
  | c :: r, l, x => by
    unfold once
    rw [List.foldl_cons]
    have h1 := once_mem r l x
    have h2 := once_mem r (c :: l) x
    unfold once at h1 h2
    split
    · rename_i m
      rw [h1, List.mem_cons]
      constructor
      · rintro (z | z)
        · exact .inl z
        · exact .inr (.inr z)
      · rintro (z | rfl | z)
        · exact .inl z
        · exact .inl m
        · exact .inr z
    · rw [h2, List.mem_cons, List.mem_cons, or_assoc, or_left_comm]
theorem once_nodup : ∀ (xs l : List Str), l.Nodup → (once l xs).Nodup
  | [], l, h => h
  | c :: r, l, h => by
    unfold once
    rw [List.foldl_cons]
    split
    · exact once_nodup r l h
    · rename_i m
      exact once_nodup r (c :: l) (List.nodup_cons.mpr ⟨m, h⟩)
theorem once_free : ∀ (xs l : List Str), xs.Nodup → (∀ x ∈ xs, x ∉ l) → (once l xs).length = l.length + xs.length
  | [], l, _, _ => rfl
  | c :: r, l, h, d => by
    obtain ⟨h1, h2⟩ := List.nodup_cons.mp h
    unfold once
    rw [List.foldl_cons, if_neg (d c (List.mem_cons_self ..))]
    have := once_free r (c :: l) h2 fun x hx m => by
      rcases List.mem_cons.mp m with z | z
      · exact h1 (z ▸ hx)
      · exact d x (List.mem_cons_of_mem _ hx) z
    unfold once at this
    rw [this, List.length_cons, List.length_cons]
    omega
theorem pe_lenSetS {a : Expr} {ta : TE} {p p2 q pos : Pos} (hg : Gl X "len") (hm : X.mg "len" = none) (hg2 : Gl X "set") (hm2 : X.mg "set" = none) (ha : PE X a ta) (hc : X.calm = true := by rfl)
    (na : starEach [a] X.env = (false, eval a X.env) :: starEach [] X.env := by rfl) : PE X (.Call (.Name "len" p) [.Call (.Name "set" p2) [a] [] q] [] pos) (tLenSetS X.K ta) := by
  refine ⟨fun pins s σ H Q I h => ?_⟩
  refine Call_ (ld_blt I hg hm boot_len ?_)
  refine PyProof.Rows.callWith_builtin1 (PyProof.Rows.args_cons ?_ rfl) rfl rfl
  refine Call_ (ld_blt I hg2 hm2 (show bootBuiltins ("set" : Str) = some (.type "set") by decide +kernel) ?_)
  refine PyProof.Rows.callWith_type1 (PyProof.Rows.args_cons (thn (ha.run pins s σ H _ I h) fun v s1 ⟨x, H1, I1, r1, q1⟩ => PyProof.Rows.args_nil ?_) na) na rfl
  obtain ⟨xs, hx, h64, q1⟩ := q1
  refine call_set_txs I1 (I1.ok.hd hc) r1 hx (by unfold scanBound; omega) fun h' tk D g1 F k => ?_
  refine PyProof.Rows.args_nil ?_
  have I2 : Inv X pins σ H1 { s1 with heap := h', toks := tk } := I1.kept k
  have hn : D.1.size = (once [] xs).length := F.tx.sz
  have hl := once_len xs []
  simp only [List.length_nil, Nat.zero_add] at hl
  exact call_len_set (es := D.1) (ep := D.2.1) (t := D.2.2) g1 ⟨rfl, rfl, rfl⟩ rfl F.tx.fit (by rw [hn]; omega) ⟨.int (once [] xs).length, H1, I2.tok _, ⟨_, by rw [hn]⟩, q1⟩
/-- sorted(the set) -/
def rSortSet (P : Program) (w : World) : List V → Hp → VK → Prop := fun vs H Q => ∃ a l, vs = [.ref a] ∧ H a = some (SetS P w a l) ∧ l.length < 64 ∧ ∀ (ys : List Str) (p : Addr), ys.Perm l → sortedS ys = true → H p = none → Q (.ref p) (upd H p (.lst (ys.map V.str)))
theorem perm_by : ∀ (l ks : List Str), l.Nodup → (∀ x ∈ l, x ∈ ks) → ks.length ≤ l.length → l.Perm ks
  | [], ks, _, _, h => by
    rw [List.length_eq_zero_iff.mp (Nat.le_zero.mp h)]
  | c :: r, ks, d, m, h => by
    obtain ⟨d1, d2⟩ := List.nodup_cons.mp d
    have hc := m c (List.mem_cons_self ..)
    have hl := List.length_erase_of_mem hc
    have := perm_by r (ks.erase c) d2 (fun x hx => (List.mem_erase_of_ne (fun e : x = c => d1 (by rw [← e]; exact hx))).mpr (m x (List.mem_cons_of_mem _ hx))) (by rw [hl]; simp only [List.length_cons] at h; omega)
    exact (this.cons c).trans (List.perm_cons_erase hc).symm
theorem txs_of : ∀ (vs : List Value), (∀ v ∈ vs, ∃ x t, v = Value.str x t) → ∃ ks : List Str, StrsAre vs ks
  | [], _ => ⟨[], .nil⟩
  | v :: vs, h => by
    obtain ⟨ks, hk⟩ := txs_of vs fun x hx => h x (List.mem_cons_of_mem _ hx)
    obtain ⟨x, t, rfl⟩ := h v (List.mem_cons_self ..)
    exact ⟨x :: ks, .cons x t hk⟩
theorem strs_mem : ∀ {vs : List Value} {ks : List Str}, StrsAre vs ks → ∀ x t, Value.str x t ∈ vs → x ∈ ks
  | _, _, .nil, x, t, h => absurd h (List.not_mem_nil)
  | _, _, .cons y u r, x, t, h => by
    rcases List.mem_cons.mp h with e | m
    · cases e; exact List.mem_cons_self ..
    · exact List.mem_cons_of_mem _ (strs_mem r x t m)
theorem cr_sortSet (hc : X.calm = true) : CallR X (.builtin "sorted") (rSortSet X.prog X.w) := by
  intro pins s σ H vs us Q I r h
  obtain ⟨a, l, rfl, ha, h64, q⟩ := h
  obtain ⟨D, g, F⟩ := setS_get I ha
  rw [Vals.ref1 r]
  have sz : D.1.size = l.length := F.tx.sz
  refine Calls.call_function_entry PyProof.Rows.kind_sorted PyProof.Rows.plain_sorted PyProof.Rows.entry_sorted (PyProof.Rows.args_sorted1 _) ?_
  unfold Builtin.«sorted»
  refine wpAny_bind (m := checkCount "sorted" 1 1 _) (wpAny_pure ?_)
  refine wpAny_bind (L2.collect_set (A := X.A.in1) (es := D.1) (ep := D.2.1) (t := D.2.2) (I.ok.hd hc) ⟨_, g, rfl, rfl⟩ F.tx.fit (by unfold scanBound; omega) F.ris F.led fun s1 out k1 hz g1 o1 pm => ?_)
  have texts : ∀ v ∈ out, ∃ x t, v = Value.str x t := fun v hv => by
    obtain ⟨e, he, rfl⟩ := List.mem_map.mp (pm.mem_iff.mp hv)
    obtain ⟨⟨k, hk, _⟩, _⟩ := F.tx.el e he
    obtain ⟨t, ev⟩ := Value.isStrOf_shape (x := k) (v := e.2) hk
    exact ⟨k, t, ev⟩
  obtain ⟨ks, hS⟩ := txs_of out texts
  have hol : out.length = l.length := by rw [pm.length_eq, List.length_map, Array.length_toList]; exact sz
  have kp : l.Perm ks := perm_by l ks F.nd (fun x hx => by
    obtain ⟨e, he, hk⟩ := (F.tx.mem x).mp hx
    obtain ⟨t, ev⟩ := Value.isStrOf_shape (x := x) (v := e.2) hk
    exact strs_mem hS x t (by rw [← ev]; exact pm.mem_iff.mpr (List.mem_map_of_mem he))) (by rw [← hS.length, hol]; exact Nat.le_refl _)
  have hlen0 : out.length < 64 := by rw [hol]; exact h64
  have I1 : Inv X pins σ H s1 := I.call' (ch := []) o1 (Un.kept k1) (I.hok.kept k1) (by rw [g1]; exact I.bare) (fun _ z => nomatch z)
  refine wpAny_bind (wpAny_newList ?_ (by rw [sizeLine_eq]; omega))
  have hoL : (s1.heap.push (seqObj "list" out.toArray 0)).get? s1.heap.objs.size = some (seqObj "list" out.toArray 0) := Heap.get?_push_size _ rfl
  refine wpAny_bind (wpAny_holding (wpAny_call_entry PyProof.Rows.slot_list_sort ⟨_, hoL, rfl⟩ PyProof.Rows.entry_list_sort
    (list_sort_treeK strKind_oneLt (s := { s1 with heap := s1.heap.push (seqObj "list" out.toArray 0) }) hoL hS.keysOf (fun v₁ v₂ rest e => keyKind_strs (by rw [← e]; exact hS)) hlen0 fun st' hp hs => ⟨_, rfl, ?_⟩)
    (PyProof.Rows.args_list_sort _)))
  obtain ⟨ys, p1, p2, p3⟩ := sorted_out_str hS hp hs
  obtain ⟨e', he'⟩ := PyProof.Rows.sortedHeap_at (vs := out) (out := (arrOf st').map (·.2)) hoL
  have hlen : (ys.map V.str).length ≤ sizeLine := by
    rw [List.length_map, p2.length_eq, kp.symm.length_eq]
    exact Nat.le_trans (Nat.le_of_lt h64) (by decide)
  refine wpAny_pure ⟨_, rfl, .ref s1.heap.objs.size, upd H s1.heap.objs.size (.lst (ys.map V.str)), I1.laid (t' := s1.toks) (fun b u e => ?_) (Nat.le_refl _)
    (show ObjOk X.prog X.w _ _ _ (.lst (ys.map V.str)) from ⟨hlen, ((arrOf st').map (·.2)).toList, e', vals_of_strs p1, by rw [Array.toArray_toList]; exact he'⟩), rfl, q ys _ (p2.trans kp.symm) p3 (I1.hok.fresh (Nat.le_refl _))⟩
  have hb : b < s1.heap.objs.size := Heap.lt_size e
  rw [PyProof.Rows.sortedHeap_old (Nat.ne_of_lt hb) (by rw [size_push']; exact Nat.lt_succ_of_lt hb)]
  exact Heap.get?_push_of_some _ e
end
end FR
set_option Elab.async false
set_option linter.all false
set_option maxRecDepth 100000
set_option maxHeartbeats 4000000
/-! {elt for t0 in i0 for t1 in i1}: a set of texts by two clauses -/
namespace FR
open PySem PySem.Spec PyProof.Rows PySem.Froz L2
abbrev Sl := L2.St
/-- one turn of a clause without tests: B is what it does with an item -/
def turnOf (p : Pos) (tg : Expr) (it : Value) (env : Env) (B : Sem Unit) (ag : Sem Fin) : Sem Fin := do
  standAt p
  match ← pyNext it with
  | none => pure (.done .next)
  | some v =>
    letOwnedTupleGo tg it v
    assign tg env v
    B
    ag
theorem turn_1 (elt t0 i0 t1 i1 : Expr) (scope : Scope) (pos : Pos) (it acc : Value) (env : Env) :
    compTurn (.SetComp elt [⟨t0, i0, [], 0⟩, ⟨t1, i1, [], 0⟩] scope pos) 1 it acc env =
      turnOf i1.pos t1 it env (do let v ← eval elt env; standAt elt.pos; let _ ← call (.builtin "set.add") [acc, v]) (again (.compLoop (.SetComp elt [⟨t0, i0, [], 0⟩, ⟨t1, i1, [], 0⟩] scope pos) 1 it acc env)) := rfl
theorem turn_0 (elt t0 i0 t1 i1 : Expr) (scope : Scope) (pos : Pos) (it acc : Value) (env : Env) :
    compTurn (.SetComp elt [⟨t0, i0, [], 0⟩, ⟨t1, i1, [], 0⟩] scope pos) 0 it acc env =
      turnOf i0.pos t0 it env (do
        let x ← eval i1 env
        standAt i1.pos
        let x ← foldedSetIterable i1 env x
        let _ ← runOwn (.compStart (.SetComp elt [⟨t0, i0, [], 0⟩, ⟨t1, i1, [], 0⟩] scope pos) 1 (← holding [x] (pyIter x)) acc env) env) (again (.compLoop (.SetComp elt [⟨t0, i0, [], 0⟩, ⟨t1, i1, [], 0⟩] scope pos) 0 it acc env)) := by
  unfold turnOf
  simp only [bind_assoc, pure_bind]
  rfl
/-- the slots of τ know what those of σ know -/
def Kn (σ τ : Sl) : Prop := τ.length = σ.length ∧ ∀ (j : Nat) v, σ[j]? = some (some v) → τ[j]? = some (some v)
theorem kn_wipe {σ τ : Sl} {vs : List Nat} (h : wipe τ vs = wipe σ vs) : Kn (wipe σ vs) τ := ⟨by rw [← h, wipe_length], fun j v e => by rw [← h] at e; exact (wipe_some e).1⟩
theorem kn_in {σ τ : Sl} {vs ws : List Nat} (h : wipe τ vs = wipe σ vs) (sub : ∀ i ∈ ws, i ∈ vs) : Kn (wipe σ vs) (wipe τ ws) := ⟨by rw [← h, wipe_length, wipe_length], fun j v e => by
  rw [← h] at e
  obtain ⟨e1, e2⟩ := wipe_some e
  rw [wipe_out fun z => e2 (sub j z)]
  exact e1⟩
theorem Inv.known {X : Cx} {pins : List (Addr × Obj)} {σ τ : Sl} {H : Hp} {s : Shared} (I : Inv X pins τ H s) (k : Kn σ τ) : Inv X pins σ H s := I.weak k.1.symm k.2
section
variable {Y : Cx}
/-- what one turn needs -/
def Round (J : It) (g : TG) (σ0 : Sl) (B : Sl → Hp → (Hp → Prop) → Prop) (Qd : Hp → Prop) (W : Nat → Nat → Hp → Prop) : Prop := ∀ i m H, W i m H →
  (J.stop i H ∧ Qd H) ∨ (J.go i H ∧ ∃ Nx : Hp → Prop, (∀ H', Nx H' → ∃ m', m' < m ∧ W (i + 1) m' H') ∧ ∀ x H', J.yld i H x H' → g x σ0 H' fun σ2 H2 => B σ2 H2 Nx)
theorem clause {k : Nat} {e tg elt : Expr} {gens : List Comprehension} {scope : Scope} {pos p : Pos} {g : TG} {B : Sem Unit} {Bt : Sl → Hp → (Hp → Prop) → Prop} {it D : Addr} {fp : List Addr} {tn : Nat → Heap → Prop} {J : It} {Qd : Hp → Prop} {W : Nat → Nat → Hp → Prop} {pins : List (Addr × Obj)} {σ0 : Sl} {R : Result → Shared → Prop}
    (he : e = .SetComp elt gens scope pos) (hc : Y.calm = true) (hx : Y.xe = fun _ _ => False) (hq : (Code.compLoop e k (.ref it) (.ref D) Y.env).quiet = true) (eq : compTurn e k (.ref it) (.ref D) Y.env = turnOf p tg (.ref it) Y.env B (again (.compLoop e k (.ref it) (.ref D) Y.env)))
    (T : Turn Y.prog Y.w Y.K tg J fp it tn) (pg : PG Y tg g)
    (body : ∀ (pins' : List (Addr × Obj)) (s : Shared) (σ2 : Sl) (H : Hp) (Nx : Hp → Prop), Inv Y pins' σ2 H s → Bt σ2 H Nx → wpAny (model Y.prog Y.w) Y.A B (fun _ s' => ∃ σ3 H', Inv Y pins' σ3 H' s' ∧ Kn σ0 σ3 ∧ Nx H') (fun _ _ => False) s)
    (rd : Round J g σ0 Bt Qd W) (hR : ∀ s' H', Inv Y pins σ0 H' s' → Qd H' → R (.ok .next) s')
    {m : Nat} {H : Hp} {s : Shared} (I : Inv Y pins σ0 H s) (st : tn 0 s.heap) (hf : ∀ b ∈ fp, FpOk Y pins H b) (w : W 0 m H) : codeAny (model Y.prog Y.w) Y.A (.compLoop e k (.ref it) (.ref D) Y.env) R s := by
  subst he
  have ok : ∀ {H' : Hp}, (∀ b ∈ fp, H' b = none) → ∀ b ∈ fp, FpOk Y pins H' b := fun n b hb => ⟨n b hb, (hf b hb).2⟩
  refine codeAny_loop hq (fun n s' => ∃ i H', Inv Y pins σ0 H' s' ∧ tn i s'.heap ∧ (∀ b ∈ fp, H' b = none) ∧ W i n H') ?_ m ⟨0, H, I, st, fun b hb => (hf b hb).1, w⟩
  rintro n s5 ⟨i, H5, I5, st5, n5, w5⟩
  show wpAny _ Y.A ((compTurn (.SetComp elt gens scope pos) k (.ref it) (.ref D) Y.env).onRaise (fun x => do noteFrame x Y.env; theTreesLotGoes x)) _ _ s5
  refine wpAny_noted ?_
  rw [eq]
  unfold turnOf
  refine wpAny_bind (wpAny_standAt (wpAny_bind ?_))
  rcases rd i n H5 w5 with ⟨stop, q⟩ | ⟨go, Nx, on, step⟩
  · refine thnF (T.done Y rfl rfl rfl hc i pins s5 σ0 H5 (fun _ _ => False) I5 (ok n5) st5 stop) fun r s6 ⟨hr, I6⟩ => ?_
    subst hr
    exact wpAny_pure (hR s6 H5 I6 q)
  · refine thnF (T.item Y rfl rfl rfl hc i pins s5 σ0 H5 (fun _ _ => False) I5 (ok n5) st5 go) fun r s6 ⟨u, hr, h6⟩ => ?_
    subst hr
    refine wpAny_bind (thnF h6 fun _ s7 ⟨x, H7, I7, r7, y7, st7, n7⟩ => ?_)
    have I7' := I7.pinned (ok n7) (T.obj _ _ st7)
    have run := pg.run _ s7 σ0 H7 x u _ I7' r7 (step x H7 y7)
    rw [hx] at run
    refine wpAny_bind (thnF run fun _ s8 ⟨σ8, H8, I8, q8⟩ => ?_)
    refine wpAny_bind (thnF (body _ s8 σ8 H8 Nx I8 q8) fun _ s9 ⟨σ9, H9, I9, kn, nx⟩ => ?_)
    obtain ⟨m', hm, w'⟩ := on H9 nx
    have there : ∀ b ∈ fp, ∀ o, s7.heap.get? b = some o → s9.heap.get? b = some o ∧ H9 b = none := fun b hb o e =>
      let z := I9.pin (b, o) (List.mem_append_right _ (List.mem_append_right _ (mem_pinsAt hb e)))
      ⟨z.1, z.2.1⟩
    refine wpAny_pure ⟨rfl, m', hm, i + 1, H9, Inv.known I9.unpinned kn, T.keep _ _ _ st7 fun b hb o e => (there b hb o e).1, fun b hb => ?_, w'⟩
    obtain ⟨o, e, _⟩ := T.obj _ _ st7 b hb
    exact (there b hb o e).2
/-- set.add of a text -/
theorem add_text {A : Around} {E : Value → Shared → Prop} {pins : List (Addr × Obj)} {σ : Sl} {H : Hp} {s : Shared} {D : Addr} {l : List Str} {x : Str} {u : Tok} {Q : Value → Shared → Prop} (I : Inv Y pins σ H s) (hD : H D = some (SetS Y.prog Y.w D l)) (room : l.length + 1 < scanBound)
    (h : ∀ s', Inv Y pins σ (upd H D (SetS Y.prog Y.w D (once l [x]))) s' → Q .none s') : wpAny (model Y.prog Y.w) A (call (.builtin "set.add") [.ref D, .str x u]) Q E s := by
  obtain ⟨P, g, F⟩ := setS_get I hD
  have hT : s.TypeIs (.ref D) "set" := ⟨_, g, rfl⟩
  have same : once l [x] = if x ∈ l then l else x :: l := rfl
  rw [same] at h
  refine wpAny_call_entry PySem.F.slot_set_add hT PySem.F.entry_set_add ?_ (PySem.F.args_set_add_2 _ _)
  unfold Builtin.«set.add» Builtin.Frozenset.oneOther
  simp only [List.isEmpty_nil, bind_assoc]
  unfold Builtin.Frozenset.addrOf setAdd
  refine wpAny_bind (wpAny_pure ?_)
  try dsimp only
  refine wpAny_bind (wpAny_pure ?_)
  try dsimp only
  refine wpAny_bind (wpAny_holding (wpAny_bind ((strKind Y.prog Y.w).pyHash (k := x) (is_str _ _) ?_)))
  by_cases m : x ∈ l
  · rw [if_pos m] at h
    refine add_there (s := { s with toks := s.toks + 1 }) g F.tx m (by omega) ?_
    show wpAny _ _ (ret Value.none) _ _ _
    refine wpAny_pure ⟨_, rfl, h _ ?_⟩
    have e : upd H D (SetS Y.prog Y.w D l) = H := by
      funext b
      unfold upd
      split
      · rename_i z; rw [z]; exact hD.symm
      · rfl
    rw [e]
    exact I.tok _
  · rw [if_neg m] at h
    refine add_x (l := l) (D := P) (s := { s with toks := s.toks + 1 }) g F.tx m room ?_
    show wpAny _ _ (ret Value.none) _ _ _
    refine wpAny_pure ⟨_, rfl, h _ (I.write (e := D) (t' := s.toks + 1) (by rw [hD]; trivial) (.inl rfl) (fun b o n e => PySem.Heap.get?_update_of_ne _ (Ne.symm n) e) ⟨_, get_upd _ g rfl⟩ (setS_new (get_upd _ g rfl) (F.add u m)))⟩
end
section
variable {prog : Program} {w : World} {A : Around} {R : Result → Shared → Prop} {s : Shared} {elt t0 i0 t1 i1 : Expr} {scope : Scope} {pos : Pos} {it acc : Value} {env : Env}
theorem start_1 (h0 : codeAny (model prog w) A (.compLoop (.SetComp elt [⟨t0, i0, [], 0⟩, ⟨t1, i1, [], 0⟩] scope pos) 1 it acc env) R s)
    (h : wpAny (model prog w) A (pyIter it) (fun it' s' => codeAny (model prog w) A (.compLoop (.SetComp elt [⟨t0, i0, [], 0⟩, ⟨t1, i1, [], 0⟩] scope pos) 1 it' acc env) R s') (notedBy (model prog w) A env fun x s' => R (.error x) s') s) :
    codeAny (model prog w) A (.compStart (.SetComp elt [⟨t0, i0, [], 0⟩, ⟨t1, i1, [], 0⟩] scope pos) 1 it acc env) R s := by
  refine codeAny_of_tree ?_
  show wpAny _ _ ((compStart (.SetComp elt [⟨t0, i0, [], 0⟩, ⟨t1, i1, [], 0⟩] scope pos) 1 it acc env).onRaise (fun x => do noteFrame x env; standAt theWindowsPlace)) _ _ s
  refine wpAny_notedAt ?_
  unfold compStart
  show wpAny _ _ (ask >>= _) _ _ s
  refine wpAny_bind (wpAny_askSetting (wpAny_ite ?_))
  split
  · first | exact wpAny_bind (wpAny_pure (wpAny_pure ⟨rfl, h0⟩)) | exact wpAny_pure ⟨rfl, h0⟩
  · refine wpAny_bind (wpAny_rule ?_)
    show wpAny _ _ (standAt i1.pos >>= _) _ _ s
    exact wpAny_bind (wpAny_standAt (wpAny_bind (wpAny_mono h (fun it' s' h' => wpAny_pure ⟨rfl, h'⟩) fun _ _ x => x)))
end
section
variable {X : Cx}
/-- {elt for t0 in i0 for t1 in i1}; vs: the block's names, vs1: those of t1 -/
def tSc2 (P : Program) (w : World) (wi : TI) (g : TG) (wi1 : TI) (g1 : TG) (te : TE) (vs vs1 : List Nat) : TE := fun σ H Q => wi σ H fun J H1 => ∀ D, H1 D = none → ∃ W : Nat → Nat → Hp → Prop, (∃ m, W 0 m (upd H1 D (SetS P w D []))) ∧
  Round J g (wipe σ vs) (fun σ2 H2 Nx => wipe σ2 vs = wipe σ vs ∧ wi1 σ2 H2 fun J1 H3 => ∃ W1 : Nat → Nat → Hp → Prop, (∃ m, W1 0 m H3) ∧
    Round J1 g1 (wipe σ2 vs1) (fun σ3 H5 Nx1 => wipe σ3 vs1 = wipe σ2 vs1 ∧ te σ3 H5 fun y H6 => ∃ x l, y = .str x ∧ H6 D = some (SetS P w D l) ∧ l.length + 1 < scanBound ∧ Nx1 (upd H6 D (SetS P w D (once l [x])))) Nx W1) (Q (.ref D)) W
theorem pe_sc2 {elt t0 i0 t1 i1 : Expr} {scope : Scope} {own : List (Str × Nat)} {vs1 : List Nat} {pos : Pos} {wi wi1 : TI} {g g1 : TG} {te : TE} (hc : X.calm = true) (hN : X.N.Nodup) (hi : PI X t0 i0 wi) (ok : BlkOk X.N X.env.scope scope own) (hv : ∀ i ∈ vs1, i ∈ own.map (·.2))
    (hg : ∀ (s : Shared) (H : Hp) (C : Addr) (cl : List (Str × Addr)) (fp : List Addr), PG (X.blk s H scope (compEnvC scope cl C X.env) fp) t0 g)
    (hi1 : ∀ (s : Shared) (H : Hp) (C : Addr) (cl : List (Str × Addr)) (fp : List Addr), PI (X.blk s H scope (compEnvC scope cl C X.env) fp) t1 i1 wi1)
    (hg1 : ∀ (s : Shared) (H : Hp) (C : Addr) (cl : List (Str × Addr)) (fp : List Addr), PG (X.blk s H scope (compEnvC scope cl C X.env) fp) t1 g1)
    (he : ∀ (s : Shared) (H : Hp) (C : Addr) (cl : List (Str × Addr)) (fp : List Addr), PE (X.blk s H scope (compEnvC scope cl C X.env) fp) elt te)
    (hs : ∀ x, foldedSetIterable i0 X.env x = pure x := by intro _; rfl) (hs1 : ∀ env x, foldedSetIterable i1 env x = pure x := by intro _ _; rfl) :
    PE X (.SetComp elt [⟨t0, i0, [], 0⟩, ⟨t1, i1, [], 0⟩] scope pos) (tSc2 X.prog X.w wi g wi1 g1 te (own.map (·.2)) vs1) := by
  refine ⟨fun pins s σ H Q I h => ?_⟩
  have hfree : ∀ y ∈ scope.names, y.2 = .free → ∃ c, X.env.cells.lookup y.1 = some c := fun y hy e => I.ok.has _ (ok.free y hy e)
  show wpAny _ _ (comprehension _ _ _ _ _ _ _) _ _ _
  refine wpAny_comprehension_free (use := none) rfl hs (closure_ok hfree) ok.kind (fun y hy e => by rw [ok.uniq y hy, e]) (thn (hi.run pins s σ H _ I h) fun xv s1 hx => thn hx fun itv s2 h2 => ?_)
  obtain ⟨it, fp, tn, J, H2, rfl, I2, T, st2, f2, q⟩ := h2
  refine PpSet.newSet_ok (newEnv_comp ?_)
  generalize hD : s2.heap.objs.size = D
  have hDn : H2 D = none := I2.hok.fresh (Nat.le_of_eq hD)
  obtain ⟨W, ⟨m0, w0⟩, rd⟩ := q D hDn
  let S0 : Obj := { cls := .type "set", dict := none, data := .set #[] 0 (.fresh 0 0 (!X.w.params.followText "set-order")) }
  generalize hs3 : ({ s2 with heap := s2.heap.push S0 } : Shared) = s3
  generalize hH3 : upd H2 D (SetS X.prog X.w D []) = H3 at w0
  have h3 : s3.heap = s2.heap.push S0 := by rw [← hs3]
  have I3 : Inv X pins σ H3 s3 := by
    rw [← hs3, ← hH3]
    refine I2.laid (t' := s2.toks) (fun b o e => Heap.get?_push_of_some _ e) (Nat.le_of_eq hD) ?_
    rw [← hD]
    exact setS_new (D := (#[], 0, .fresh 0 0 (!X.w.params.followText "set-order"))) (Heap.get?_push_size _ rfl) (Sx.fresh X.w)
  have f3 : ∀ b ∈ fp, FpOk X pins H3 b ∧ b < s3.heap.objs.size := fun b hb => by
    obtain ⟨o, e, _⟩ := T.obj _ _ st2 b hb
    have lt := Heap.lt_size e
    refine ⟨⟨?_, (f2 b hb).2⟩, by rw [h3, Heap.size_push]; exact Nat.lt_succ_of_lt lt⟩
    rw [← hH3, upd_ne (by rw [← hD]; exact Nat.ne_of_lt lt)]
    exact (f2 b hb).1
  have I4 := block_start I3 ok hN f3
  have keep4 : ∀ b o, s2.heap.get? b = some o → (pushCells (s3.heap.push { cls := .type "dict", data := .dict #[] }) scope.names).get? b = some o := fun b o e => pushCells_keeps _ _ _ _ (Heap.get?_push_of_some _ (by rw [h3]; exact Heap.get?_push_of_some _ e))
  show codeAny _ _ (.compStart (.SetComp elt [⟨t0, i0, [], 0⟩, ⟨t1, i1, [], 0⟩] scope pos) 0 (.ref it) (.ref D) (compEnvC scope (cellsFrom (s3.heap.objs.size + 1) scope.names (cloFrom X.env.cells scope.names [])) s3.heap.objs.size X.env)) _ { s3 with heap := pushCells (s3.heap.push { cls := .type "dict", data := .dict #[] }) scope.names }
  have pg := hg s3 H3 s3.heap.objs.size (cellsFrom (s3.heap.objs.size + 1) scope.names (cloFrom X.env.cells scope.names [])) fp
  have pe := he s3 H3 s3.heap.objs.size (cellsFrom (s3.heap.objs.size + 1) scope.names (cloFrom X.env.cells scope.names [])) fp
  have pi1 := hi1 s3 H3 s3.heap.objs.size (cellsFrom (s3.heap.objs.size + 1) scope.names (cloFrom X.env.cells scope.names [])) fp
  have pg1 := hg1 s3 H3 s3.heap.objs.size (cellsFrom (s3.heap.objs.size + 1) scope.names (cloFrom X.env.cells scope.names [])) fp
  generalize hce : compEnvC scope (cellsFrom (s3.heap.objs.size + 1) scope.names (cloFrom X.env.cells scope.names [])) s3.heap.objs.size X.env = ce at I4 pg pe pi1 pg1 ⊢
  have cL : ce.locals = s3.heap.objs.size := by subst hce; rfl
  generalize hs4 : ({ s3 with heap := pushCells (s3.heap.push { cls := .type "dict", data := .dict #[] }) scope.names } : Shared) = s4 at I4 ⊢
  have st4 : tn 0 s4.heap := T.keep _ _ _ st2 fun b _ o e => by rw [← hs4]; exact keep4 b o e
  have nfp : ∀ b ∈ fp, H3 b = none := fun b hb => (f3 b hb).1.1
  have fY : ∀ b ∈ fp, FpOk (X.blk s3 H3 scope ce fp) [] H3 b := fun b hb =>
    ⟨nfp b hb, (I4.ok.exf b hb).1, I4.ok.exfs b hb, .inl hb, fun x c e => (I4.ok.exf b hb).2 x c e, fun p hp => absurd (show p ∈ ([] : List (Addr × Obj)) ++ [] from hp) (by simp)⟩
  have loop : codeAny (model X.prog X.w) X.A (.compLoop (.SetComp elt [⟨t0, i0, [], 0⟩, ⟨t1, i1, [], 0⟩] scope pos) 0 (.ref it) (.ref D) ce) (compPost (model X.prog X.w) X.A X.xe none (fun v s' => ∃ x H', Inv X pins σ H' s' ∧ RelV x v ∧ Q x H') (.ref D) s3.heap.objs.size) s4 := by
    refine clause (Y := X.blk s3 H3 scope ce fp) rfl hc rfl rfl (turn_0 elt t0 i0 t1 i1 scope pos (.ref it) (.ref D) ce) T pg ?_ rd ?_ I4 st4 fY w0
    · intro pins' s5 σ5 H5 Nx I5 q5
      obtain ⟨hw5, q5⟩ := q5
      refine wpAny_bind (thnF (pi1.run _ s5 σ5 H5 _ I5 q5) fun xv s6 hx => ?_)
      refine wpAny_bind (wpAny_standAt (wpAny_bind (wpAny_of_eq (hs1 ce xv) (wpAny_bind (wpAny_holding (thnF hx fun itv s7 h7 => ?_))))))
      obtain ⟨it1, fp1, tn1, J1, H7, rfl, I7, T1, st7, f7, W1, ⟨m1, w1⟩, rd1⟩ := h7
      refine wpAny_bind (wpAny_runOwn ?_)
      rw [Around.mark_none]
      have loop1 : codeAny (model X.prog X.w) X.A (.compLoop (.SetComp elt [⟨t0, i0, [], 0⟩, ⟨t1, i1, [], 0⟩] scope pos) 1 (.ref it1) (.ref D) ce)
          (fun r s' => match r with
            | .ok _ => ∃ σ3 H', Inv (X.blk s3 H3 scope ce fp) pins' σ3 H' s' ∧ Kn (wipe σ (own.map (·.2))) σ3 ∧ Nx H'
            | .error _ => False) s7 := by
        refine clause (Y := X.blk s3 H3 scope ce fp) rfl hc rfl rfl (turn_1 elt t0 i0 t1 i1 scope pos (.ref it1) (.ref D) ce) T1 pg1 (σ0 := wipe σ5 vs1) ?_ rd1 (fun s9 H9 I9 q9 => ⟨_, H9, I9, kn_in hw5 hv, q9⟩) (Inv.known I7 (kn_wipe rfl)) st7 f7 w1
        intro pins8 s8 σ8 H8 Nx1 I8 q8
        obtain ⟨hw8, q8⟩ := q8
        refine wpAny_bind (thnF (pe.run _ s8 σ8 H8 _ I8 q8) fun v s9 ⟨y, H9, I9, r9, x, l, ey, hD9, room, nx⟩ => ?_)
        subst ey
        obtain ⟨u, rfl⟩ := r9
        refine wpAny_bind (wpAny_standAt (wpAny_bind ?_))
        exact add_text (Y := X.blk s3 H3 scope ce fp) I9 hD9 room fun s10 I10 => wpAny_pure ⟨σ8, _, I10, kn_wipe hw8, nx⟩
      refine codeAny_mono (start_1 loop1 (T1.self X.A 0 _ _ _ st7 loop1)) fun r s' hr => ?_
      cases r with
      | ok f => exact wpAny_pure hr
      | error e => exact hr.elim
    · intro s6 H6 I6 q6
      have I7 : Inv X pins σ H6 s6 := I3.call' (ch := fp) I6.os I6.base I6.hok I6.bare fun b hb => ⟨(f3 b hb).1.2.2.2.1, (f3 b hb).1.2.1, (f3 b hb).1.2.2.2.2.1, (f3 b hb).1.2.2.2.2.2⟩
      have nC : H6 s3.heap.objs.size = none := by
        have z : H6 ce.locals = none := I6.free
        rw [cL] at z
        exact z
      obtain ⟨m, hn, _⟩ := I6.loc
      have hn : s6.heap.Ns ce.locals m := hn
      rw [cL] at hn
      obtain ⟨a0, a1, a2, a3, a4, a5⟩ := I3.fpOk (Nat.le_refl _) nC
      exact ⟨m, hn, fun h'' sb => ⟨.ref D, H6, I7.turned (t' := s6.toks) (fun b o hb e => (sb.2 b hb).trans e) a0 a1 a3 a4 a5, rfl, q6⟩⟩
  exact PpSet.codeAny_compStart_set loop (T.self X.A 0 _ _ _ st4 loop)
end
end FR
set_option Elab.async false
set_option linter.all false
set_option maxRecDepth 100000
set_option maxHeartbeats 4000000
/-! not in an own object; a list's slice by a step of one or minus one; sum(lists, start=[]) -/
namespace FR
open PySem PySem.Spec PyProof.Rows
section
open L2
variable {X : Cx} {C g : Addr} {n : Nat} {sp : Sp} {CX : CXT} {E : XK}
def rNotInI (C : Addr) (sp : Sp) (E : XK) : R2 := fun x y H Q => ∃ a dx fs, y = .ref a ∧ H a = some (.ins C dx fs) ∧ sp [y, x] H (fun z H' => ∃ b, z = .bl b ∧ Q (.bl (!b)) H') E
theorem op_notInI (hs : PySem.W.findIn X.K (.ref C) "__contains__" = some (some (.ref g))) (hf : PySem.W.isFn X.K (.ref g) = true) (F : FnR X.prog X.w X.K X.mg X.base CX n g sp)
    (hr : Room n X.A) (hx : Passes CX X E) : OpR X (compareOp .NotIn) (rNotInI C sp E) := by
  intro pins s σ H x y v u Q I rx ry h
  obtain ⟨a, dx, fs, rfl, ha, q⟩ := h
  cases (show u = Value.ref a from ry)
  obtain ⟨od, J⟩ := ins_inst I ha
  obtain ⟨m, hF⟩ := I.fr
  refine PySem.W.notIn_K hF I.ok.mod.kin J hs hf (wpAny_mono (wpAny_call (run_fnR (us := [.ref a, v]) (vs := [.ref a, x]) F hr hx I (.cons rfl (.cons rx .nil)) q)) (fun w s' z => ?_) fun _ _ x => x)
  obtain ⟨z', H', I', rz, b, eb, qz⟩ := z
  subst eb
  cases (show w = Value.bool b from rz)
  exact wpAny_truthy_bool ⟨.bl (!b), H', I', rfl, qz⟩
/-- xs[::k], k one or minus one -/
def tStepL (K : PySem.W.Frag) (te : TE) (tp : L2.St → Hp → (Option Int → Hp → Prop) → Prop) : TE := fun σ H Q => te σ H fun x H1 => ∃ a xs, x = .ref a ∧ SqL K H1 a xs ∧ tp σ H1 fun o H2 => SqL K H2 a xs ∧
  ((o = some 1 ∧ ∀ p, H2 p = none → Q (.ref p) (upd H2 p (.lst xs))) ∨ (o = some (-1) ∧ ∀ p, H2 p = none → Q (.ref p) (upd H2 p (.lst xs.reverse))))
theorem pick_all (items : Array Value) : slicePick items none none (some 1) = items := by
  have e : sliceBounds none none (some 1) items.size = (0, (items.size : Int), 1) := by first | rfl | simp [sliceBounds]
  unfold slicePick
  rw [e]
  have h1 := sliceRange_one 0 items.size
  have h2 := pick_run items 0 items.size
  simp only [Nat.sub_zero] at h1
  show ((sliceRange 0 (items.size : Int) 1).filterMap (items[·]?)).toArray = items
  rw [show sliceRange 0 (items.size : Int) 1 = (List.range items.size).map (0 + ·) from h1, h2, List.drop_zero, List.take_of_length_le (by rw [Array.length_toList]; exact Nat.le_refl _), Array.toArray_toList]
theorem pe_stepL {e se : Expr} {te : TE} {tp : L2.St → Hp → (Option Int → Hp → Prop) → Prop} {p3 pos : Pos} (he : PE X e te) (hp : PO X (some se) tp) (hops : ∀ v w, subscripted (.Slice none none (some se) p3) false v w = operate [v, w] (getItem v w) := by intro _ _; with_unfolding_all rfl) :
    PE X (.Subscript e (.Slice none none (some se) p3) pos) (tStepL X.K te tp) := by
  refine ⟨fun pins s σ H Q I h => ?_⟩
  refine Subscript_ (thn (he.run pins s σ H _ I h) fun v s1 ⟨x, H1, I1, r1, q1⟩ => ?_)
  obtain ⟨a, xs, ex, hx, q⟩ := q1
  subst ex
  cases r1
  refine wpAny_Slice (thn (po_none.run pins s1 σ H1 (fun o H2 => o = none ∧ H2 = H1) I1 ⟨rfl, rfl⟩) fun vl s2 ⟨l, H2, I2, pl, el, e2⟩ => ?_)
  subst el e2
  refine thn (po_none.run pins s2 σ H2 (fun o H3 => o = none ∧ H3 = H2) I2 ⟨rfl, rfl⟩) fun vu s3 ⟨u, H3, I3, pu, eu, e3⟩ => ?_
  subst eu e3
  refine thn (hp.run pins s3 σ H3 _ I3 q) fun vs s4 ⟨o, H4, I4, ps, hx4, q4⟩ => ?_
  have I5 : Inv X pins σ H4 { s4 with heap := s4.heap.push { cls := .type "slice", data := .fields #[vl, vu, vs] } } := I4.kept (t' := s4.toks) fun b ob q => Heap.get?_push_of_some _ q
  obtain ⟨its, r, ht, hz⟩ := I5.list hx4
  have hlen := r.length
  show wpAny (model X.prog X.w) X.A (subscriptTail e (.Slice none none (some se) p3) (.ref a) (.ref s4.heap.objs.size)) (EP X pins σ Q) X.xe { s4 with heap := s4.heap.push { cls := .type "slice", data := .fields #[vl, vu, vs] } }
  refine tail_any (ops := [.ref a, .ref s4.heap.objs.size]) ht.isList.typeIs (PySem.slot_list_getitem.lookup) ?_ (hops _ _)
  rcases q4 with ⟨rfl, q4⟩ | ⟨rfl, q4⟩
  · refine wpAny_getItem_list_slice ht.isList (Heap.IsSliceOf.new _ vl vu vs) pl pu ps (by decide) ?_ (by rw [List.size_toArray]; omega)
    rw [pick_all]
    refine ⟨.ref _, _, I5.laid (t' := s4.toks) (o := .lst xs) (fun b ob q => Heap.get?_push_of_some _ q) (Nat.le_refl _) ?_, rfl, q4 _ (I5.hok.fresh (Nat.le_refl _))⟩
    exact ⟨hz, _, 0, r, Heap.get?_push_size _ rfl⟩
  · refine wpAny_getItem_list_slice ht.isList (Heap.IsSliceOf.new _ vl vu vs) pl pu ps (by decide) ?_ (by rw [List.size_toArray]; omega)
    rw [PySem.W.krv_pick]
    refine ⟨.ref _, _, I5.laid (t' := s4.toks) (o := .lst xs.reverse) (fun b ob q => Heap.get?_push_of_some _ q) (Nat.le_refl _) ?_, rfl, q4 _ (I5.hok.fresh (Nat.le_refl _))⟩
    exact ⟨by rw [List.length_reverse]; exact hz, _, 0, r.reverse, Heap.get?_push_size _ rfl⟩
end
section
variable {prog : Program} {w : World} {A : Around}
/-- the lists of a list, one behind the other -/
theorem sum_go {R : Result → Shared → Prop} {I S l : Addr} {items : Array Value} (hh : A.handled = none) (nSI : S ≠ I) (nSl : S ≠ l) (nlI : l ≠ I) :
    ∀ (rest : List (Addr × List Value)) (i : Nat) (s : Shared) (t : Addr) (tot : List Value) (n c : Nat), items.toList.drop i = rest.map (fun q => Value.ref q.1) → i ≤ items.size → s.heap.IsListIter I l i → s.heap.IsList l items →
      IsL s.heap S #[.ref t] c → IsL s.heap t tot.toArray n → (∀ q ∈ rest, ∃ k, IsL s.heap q.1 q.2.toArray k) → t ≠ S → t ≠ I → (∀ q ∈ rest, q.1 ≠ S ∧ q.1 ≠ I) → tot.length + (rest.map (·.2.length)).sum ≤ sizeLine →
      (∀ (h' : Heap) (tk : Nat) (t' : Addr) (k : Nat), IsL h' t' (tot ++ (rest.map (·.2)).flatten).toArray k → (∀ b o, b ≠ S → b ≠ I → s.heap.get? b = some o → h'.get? b = some o) → (rest = [] → t' = t) → (rest ≠ [] → s.heap.objs.size ≤ t') → R (.ok (.ret (.ref t'))) { s with heap := h', toks := tk }) →
      codeAny (model prog w) A (.builtin "sum.loop" ⟨[.ref I, .ref S, rawInt 2, rawInt 0], []⟩) R s
  | [], i, s, t, tot, n, c, dr, hi, it, hl, hS, ht, _, _, _, _, _, q => by
    have e : items.toList[i]? = none := by
      rw [← List.head?_drop, dr]; rfl
    refine codeAny_builtin F.entry_sum_loop ?_
    rw [Around.under_plainId F.plain_sum_loop _]
    show wpAny _ A.in1 (seqItems? (.ref S) >>= _) _ _ s
    refine wpAny_bind (wpAny_seqItems hS rfl ?_)
    show wpAny _ A.in1 (tryCatch (pyNext (.ref I)) _ >>= _) _ _ s
    refine wpAny_bind (wpAny_tryCatch (wpAny_pyNext_list_end (by simp [hh]) it hl (by rw [← Array.getElem?_toList]; exact e) fun h' he => ?_))
    refine wpAny_pure (q h' s.toks t n (by simpa using he t _ (by assumption) ht) (fun b o n1 n2 e => he b o n2 e) (fun _ => rfl) (fun h => absurd rfl h))
  | (b, ys) :: rest, i, s, t, tot, n, c, dr, hi, it, hl, hS, ht, hr, ntS, ntI, nr, bound, q => by
    have hx : items[i]? = some (.ref b) := by
      rw [← Array.getElem?_toList, ← List.head?_drop, dr]; rfl
    have dr2 : items.toList.drop (i + 1) = rest.map (fun q => Value.ref q.1) := by
      rw [← List.tail_drop, dr]; rfl
    have lt : i < items.size := (Array.getElem?_eq_some_iff.mp hx).1
    obtain ⟨kb, hb⟩ := hr (b, ys) (List.mem_cons_self ..)
    obtain ⟨nbS, nbI⟩ := nr (b, ys) (List.mem_cons_self ..)
    simp only [List.map_cons, List.sum_cons] at bound
    refine codeAny_builtin F.entry_sum_loop ?_
    rw [Around.under_plainId F.plain_sum_loop _]
    show wpAny _ A.in1 (seqItems? (.ref S) >>= _) _ _ s
    refine wpAny_bind (wpAny_seqItems hS rfl ?_)
    show wpAny _ A.in1 (tryCatch (pyNext (.ref I)) _ >>= _) _ _ s
    refine wpAny_bind (wpAny_tryCatch (wpAny_pyNext_list_item it hl hx fun h1 it1 sb => ?_))
    have k1 : ∀ a o, a ≠ I → s.heap.get? a = some o → h1.get? a = some o := fun a o ne e => (sb.2 a ne).trans e
    show wpAny _ A.in1 ((holding [Value.ref b] (binaryOp .Add (.ref t) (.ref b))).attempt >>= _) _ _ _
    refine wpAny_bind (wpAny_attempt (wpAny_holding (P.add_list (s := { s with heap := h1 }) (k1 t _ ntI ht) (k1 b _ nbI hb) ?_ (by simp only [List.size_toArray]; omega))))
    have eq : tot.toArray ++ ys.toArray = (tot ++ ys).toArray := by simp
    rw [eq]
    show wpAny _ A.in1 (updateSeq S (fun _ => #[.ref h1.objs.size]) >>= _) _ _ _
    have hS1 : IsL (h1.push { cls := .type "list", data := .seq (tot ++ ys).toArray }) S #[.ref t] c := Heap.get?_push_of_some _ (k1 S _ nSI hS)
    have lS1 := Heap.lt_size (k1 S _ nSI hS)
    refine wpAny_bind (wpAny_updateSeq hS1 rfl ?_)
    have hS2 := Heap.get?_update_self (Obj.mapSeq fun _ => #[Value.ref h1.objs.size]) hS1 rfl
    refine wpAny_bind (wpAny_letGo ?_)
    show wpAny _ A.in1 (updateSeq S (fun _ => #[.ref h1.objs.size]) >>= _) _ _ _
    refine wpAny_bind (wpAny_updateSeq hS2 rfl ?_)
    have hS3 := Heap.get?_update_self (Obj.mapSeq fun _ => #[Value.ref h1.objs.size]) hS2 rfl
    have sz : s.heap.objs.size ≤ h1.objs.size := Nat.le_of_eq sb.1.symm
    have keep : ∀ a o, a ≠ S → a ≠ I → s.heap.get? a = some o → ((((h1.push { cls := .type "list", data := .seq (tot ++ ys).toArray }).update S (Obj.mapSeq fun _ => #[Value.ref h1.objs.size])).update S (Obj.mapSeq fun _ => #[Value.ref h1.objs.size]))).get? a = some o := fun a o n1 n2 e =>
      (Heap.get?_update_other _ _ (Ne.symm n1)).trans ((Heap.get?_update_other _ _ (Ne.symm n1)).trans (Heap.get?_push_of_some _ (k1 a o n2 e)))
    have nt : h1.objs.size ≠ S := Nat.ne_of_gt lS1
    have nI : h1.objs.size ≠ I := by
      obtain ⟨oI, hI, _⟩ := it1
      exact Nat.ne_of_gt (Heap.lt_size hI)
    refine wpAny_pure ⟨plainId_quiet F.plain_sum_loop _, sum_go hh nSI nSl nlI rest (i + 1) _ h1.objs.size (tot ++ ys) 0 _ dr2 lt ?_ ?_ hS3 ?_ (fun z hz => ?_) nt nI (fun z hz => nr z (List.mem_cons_of_mem _ hz)) (by rw [List.length_append]; omega) fun h' tk t' k hL kk e1 e2 => ?_⟩
    · exact it1.at fun o e => (Heap.get?_update_other _ _ nSI).trans ((Heap.get?_update_other _ _ nSI).trans (Heap.get?_push_of_some _ e))
    · exact hl.at fun o e => keep l o (Ne.symm nSl) nlI e
    · exact (Heap.get?_update_other _ _ (Ne.symm nt)).trans ((Heap.get?_update_other _ _ (Ne.symm nt)).trans (Heap.get?_push_size _ rfl))
    · obtain ⟨kz, hz2⟩ := hr z (List.mem_cons_of_mem _ hz)
      obtain ⟨n1, n2⟩ := nr z (List.mem_cons_of_mem _ hz)
      exact ⟨kz, keep _ _ n1 n2 hz2⟩
    · refine q h' tk t' k ?_ (fun a o n1 n2 e => kk a o n1 n2 (keep a o n1 n2 e)) (fun h => nomatch h) fun _ => ?_
      · rw [List.map_cons, List.flatten_cons, ← List.append_assoc]; exact hL
      · by_cases hrest : rest = []
        · rw [e1 hrest]; exact sz
        · refine Nat.le_trans sz (Nat.le_trans ?_ (e2 hrest))
          rw [Heap.size_update, Heap.size_update, Heap.size_push]
          exact Nat.le_succ _
end
end FR
set_option Elab.async false
set_option linter.all false
set_option maxRecDepth 100000
set_option maxHeartbeats 4000000
/-! sum(lists, start=[]) -/
namespace FR
open PySem PySem.Spec PyProof.Rows
section
variable {prog : Program} {w : World} {A : Around} {E : Value → Shared → Prop} {s : Shared}
theorem sum_args (a b : Value) : argsOk "sum" ⟨[a], [(Str.ofString "start", b)]⟩ := by unfold argsOk; kernel_rfl
theorem sum_check (a b : Value) : checkBuiltinCall "sum" ⟨[a], [(Str.ofString "start", b)]⟩ = pure () := by
  have ha := sum_args a b
  simp only [checkBuiltinCall, F.kind_sum]
  cases hsig : Manifest.signature? "sum" with
  | none => rfl
  | some sig =>
    simp only [argsOk, hsig] at ha
    exact ha
theorem call_sum_lists {l z : Addr} {items : Array Value} {nz : Nat} {rest : List (Addr × List Value)} {Q : Value → Shared → Prop} (hh : A.handled = none) (hl : s.heap.IsList l items) (hi : items.toList = rest.map fun q => Value.ref q.1) (hz : IsL s.heap z #[] nz)
    (hr : ∀ q ∈ rest, ∃ k, IsL s.heap q.1 q.2.toArray k) (ne : rest ≠ []) (bound : (rest.map (·.2.length)).sum ≤ sizeLine)
    (h : ∀ (h' : Heap) (tk : Nat) (t : Addr) (k : Nat), IsL h' t ((rest.map (·.2)).flatten).toArray k → (∀ b o, s.heap.get? b = some o → h'.get? b = some o) → s.heap.objs.size ≤ t → Q (.ref t) { s with heap := h', toks := tk }) :
    wpAny (model prog w) A (call (.builtin "sum") [.ref l] [(Str.ofString "start", .ref z)]) Q E s := by
  refine wpAny_call (codeAny_call_builtin F.plain_sum F.entry_sum ?_)
  show wpAny _ _ (checkBuiltinCall "sum" ⟨[.ref l], [(Str.ofString "start", .ref z)]⟩) _ _ s
  rw [sum_check]
  refine wpAny_pure ?_
  unfold Builtin.«sum»
  simp only [List.length_cons, List.length_nil]
  rw [if_neg (by decide)]
  refine wpAny_bind (wpAny_of_eq (show Builtin.Builtins.bindParams "sum" ["start"] 0 ⟨[], [(Str.ofString "start", Value.ref z)]⟩ = pure [some (.ref z)] from rfl) ?_)
  refine wpAny_bind (wpAny_pyIter_list hl ?_)
  refine wpAny_bind (wpAny_pure ?_)
  have hz1 : IsL (s.heap.push { cls := .type "list_iterator", data := .fields #[.ref l, .int 0 0] }) z #[] nz := hz.push _
  have tz : Shared.TypeIs { s with heap := s.heap.push { cls := .type "list_iterator", data := .fields #[.ref l, .int 0 0] } } (.ref z) "list" := ⟨_, hz1, rfl⟩
  simp only [List.forIn_cons, List.forIn_nil]
  refine wpAny_bind (wpAny_bind (wpAny_bind (wpAny_isInstance (T := "list") (b := false) tz F.sub_list_str ?_)))
  simp only [Bool.false_eq_true, if_false]
  refine wpAny_pure (wpAny_bind (wpAny_bind (wpAny_isInstance (T := "list") (b := false) tz F.sub_list_bytes ?_)))
  simp only [Bool.false_eq_true, if_false]
  refine wpAny_pure (wpAny_bind (wpAny_bind (wpAny_isInstance (T := "list") (b := false) tz F.sub_list_bytearray ?_)))
  simp only [Bool.false_eq_true, if_false]
  refine wpAny_pure (wpAny_pure ?_)
  refine wpAny_bind (wpAny_newObj_type ?_)
  have hl1 := hl.push { cls := .type "list_iterator", data := .fields #[.ref l, .int 0 0] }
  have sz1 : (s.heap.push { cls := .type "list_iterator", data := .fields #[.ref l, .int 0 0] }).objs.size = s.heap.objs.size + 1 := Heap.size_push ..
  have ll : l < s.heap.objs.size := by obtain ⟨o, ho, _⟩ := hl; exact Heap.lt_size ho
  have lz : z < s.heap.objs.size := Heap.lt_size hz
  refine wpAny_pure ⟨plainId_quiet F.plain_sum_loop _, sum_go (I := s.heap.objs.size) (S := (s.heap.push { cls := .type "list_iterator", data := .fields #[.ref l, .int 0 0] }).objs.size) (l := l) (items := items) hh
    (by rw [sz1]; exact Nat.succ_ne_self _) (by rw [sz1]; exact Nat.ne_of_gt (Nat.lt_succ_of_lt ll)) (Nat.ne_of_lt ll) rest 0 _ z [] nz 0 (by rw [List.drop_zero]; exact hi) (Nat.zero_le _)
    ⟨_, Heap.get?_push_of_some _ (Heap.get?_push_size _ rfl), rfl, rfl⟩ (hl1.push _) (Heap.get?_push_size _ rfl) (by simpa using hz1.push _) (fun q hq => ?_) (by rw [sz1]; exact Nat.ne_of_lt (Nat.lt_succ_of_lt lz)) (Nat.ne_of_lt lz) (fun q hq => ?_) (by simpa using bound) fun h' tk t k hL kk e1 e2 => ?_⟩
  · obtain ⟨k, hk⟩ := hr q hq
    exact ⟨k, (hk.push _).push _⟩
  · obtain ⟨k, hk⟩ := hr q hq
    have lq := Heap.lt_size hk
    exact ⟨by rw [sz1]; exact Nat.ne_of_lt (Nat.lt_succ_of_lt lq), Nat.ne_of_lt lq⟩
  · refine h h' tk t k (by simpa using hL) (fun b o e => ?_) ?_
    · have lb := Heap.lt_size e
      exact kk b o (by rw [sz1]; exact Nat.ne_of_lt (Nat.lt_succ_of_lt lb)) (Nat.ne_of_lt lb) (Heap.get?_push_of_some _ (Heap.get?_push_of_some _ e))
    · have := e2 ne
      refine Nat.le_trans ?_ this
      show s.heap.objs.size ≤ Array.size _
      rw [Heap.size_push, sz1]
      omega
end
section
open L2
variable {X : Cx}
theorem lists_of {pins : List (Addr × Obj)} {σ : L2.St} {H : Hp} {s : Shared} (I : Inv X pins σ H s) : ∀ ps : List (Addr × List V), (∀ p ∈ ps, H p.1 = some (.lst p.2)) →
    ∃ rest : List (Addr × List Value), rest.map (fun q => Value.ref q.1) = ps.map (fun q => Value.ref q.1) ∧ Vals (ps.map (·.2)).flatten (rest.map (·.2)).flatten ∧ (∀ q ∈ rest, ∃ k, IsL s.heap q.1 q.2.toArray k) ∧ rest.map (·.2.length) = ps.map (·.2.length)
  | [], _ => ⟨[], rfl, .nil, (fun q h => absurd h List.not_mem_nil), rfl⟩
  | (a, xs) :: ps, h => by
    obtain ⟨rest, e1, e2, e3, e4⟩ := lists_of I ps fun p hp => h p (List.mem_cons_of_mem _ hp)
    obtain ⟨_, its, n, r, hl, e⟩ := I.lstM (h (a, xs) (List.mem_cons_self ..))
    refine ⟨(a, its) :: rest, by rw [List.map_cons, List.map_cons, e1], by rw [List.map_cons, List.map_cons, List.flatten_cons, List.flatten_cons]; exact r.append e2, fun q hq => ?_, by rw [List.map_cons, List.map_cons, e4]; show its.length :: _ = xs.length :: _; rw [hl]⟩
    rcases List.mem_cons.mp hq with rfl | m
    · exact ⟨n, e⟩
    · exact e3 q m
def rSumL (K : PySem.W.Frag) : List V → List V → Hp → VK → Prop := fun vs zs H Q => ∃ (a z : Addr) (ps : List (Addr × List V)), vs = [.ref a] ∧ zs = [.ref z] ∧ SqL K H a (ps.map fun p => V.ref p.1) ∧ H z = some (.lst []) ∧ (∀ p ∈ ps, H p.1 = some (.lst p.2)) ∧ ps ≠ [] ∧ (ps.map (·.2.length)).sum ≤ 4000 ∧
  ∀ t, H t = none → Q (.ref t) (upd H t (.lst (ps.map (·.2)).flatten))
theorem cr_sumL (hc : X.calm = true) : CallRK X (.builtin "sum") [Str.ofString "start"] (rSumL X.K) := by
  intro pins s σ H vs zs us ws Q I r rz h
  obtain ⟨a, z, ps, rfl, rfl, hs, hz, hp, ne, b, q⟩ := h
  obtain rfl := Vals.ref1 r
  obtain rfl := Vals.ref1 rz
  obtain ⟨its, rv, hl, _⟩ := I.list hs
  obtain ⟨rest, e1, e2, e3, e4⟩ := lists_of I ps hp
  obtain ⟨_, iz, nz, rz0, lz, ez⟩ := I.lstM hz
  have iz0 : iz = [] := List.length_eq_zero_iff.mp lz.symm
  subst iz0
  have ie : its = rest.map fun q => Value.ref q.1 := by
    rw [e1]
    have : ∀ (qs : List (Addr × List V)) (us : List Value), Vals (qs.map fun p => V.ref p.1) us → us = qs.map fun q => Value.ref q.1 := fun qs => by
      induction qs with
      | nil => intro us h; cases h; rfl
      | cons p t ih =>
        intro us h
        rw [List.map_cons] at h
        cases h with
        | cons r1 rr => rw [List.map_cons, ih _ rr]; cases r1; rfl
    exact this ps its rv
  have len : ((ps.map (·.2)).flatten).length ≤ sizeLine := by
    rw [List.length_flatten, List.map_map]
    exact Nat.le_trans b (by decide)
  show wpAny _ _ (call (.builtin "sum") [.ref a] [(Str.ofString "start", .ref z)]) _ _ _
  refine call_sum_lists (rest := rest) (I.ok.hd hc) hl.isList (by simpa using ie) ez e3 (fun e => ne ?_) (by rw [e4]; exact Nat.le_trans b (by decide)) fun h' tk t k hL kk hge => ?_
  · rw [e] at e1
    exact List.map_eq_nil_iff.mp e1.symm
  · have hn : H t = none := I.hok.fresh hge
    have J : Inv X pins σ (upd H t (.lst (ps.map (·.2)).flatten)) { s with heap := h', toks := tk } := I.laid (t' := tk) kk hge ⟨len, _, k, e2, hL⟩
    exact ⟨.ref t, _, J, rfl, q t hn⟩
end
end FR
set_option Elab.async false
set_option linter.all false
set_option maxRecDepth 100000
set_option maxHeartbeats 4000000
/-! == of dicts whose values are data; a method called by keywords; `in` within a block -/
namespace FR
open PySem PySem.Spec PyProof.Rows L2
def valD (ns : List (Key × PyData)) (k : Key) : Option PyData := (ns.find? fun q => decide (q.1 = k)).map (·.2)
def hitsD (ns : List (Key × PyData)) : List (Key × PyData) → Bool
  | [] => true
  | (k, d) :: r => match valD ns k with
    | none => false
    | some e => PyData.eqv d e && hitsD ns r
def eqDD (ms ns : List (Key × PyData)) : Bool := ms.length == ns.length && hitsD ns ms
/-- a dict's entries, their values data -/
def DpK (K : PySem.W.Frag) (H : Hp) : List (Key × V) → List (Key × PyData) → Prop := Paired fun kv m => kv.1 = m.1 ∧ Dp K H kv.2 m.2 ∧ SeqAt.shaped m.2 = true
theorem dpK_val {K : PySem.W.Frag} {H : Hp} {ks : List (Key × V)} {ms : List (Key × PyData)} (h : DpK K H ks ms) (k : Key) : (valV ks k = none ∧ valD ms k = none) ∨ ∃ v d, valV ks k = some v ∧ valD ms k = some d ∧ Dp K H v d ∧ SeqAt.shaped d = true := by
  induction h with
  | nil => exact .inl ⟨rfl, rfl⟩
  | @cons p m r t h hr ih =>
    obtain ⟨e, hd, hs⟩ := h
    by_cases c : p.1 = k
    · refine .inr ⟨p.2, m.2, valV_pos c, ?_, hd, hs⟩
      unfold valD
      rw [List.find?_cons_of_pos (by rw [← e]; exact decide_eq_true c)]; rfl
    · rw [valV_neg c]
      have : valD (m :: t) k = valD t k := by
        unfold valD
        rw [List.find?_cons_of_neg (by rw [← e]; simpa using c)]
      rw [this]
      exact ih
section
variable {X : Cx}
theorem hits_dd {A : Around} {pins : List (Addr × Obj)} {σ : L2.St} {H : Hp} {s : Shared} (I : Inv X pins σ H s) (hu : A.units + 64 < cLine) {ls : List (Key × V)} {ns : List (Key × PyData)} {vb : List (Key × Value)} (hb : DpK X.K H ls ns) (rb : KV ls vb) :
    ∀ {ks : List (Key × V)} {ms : List (Key × PyData)} {va : List (Key × Value)}, DpK X.K H ks ms → KV ks va → PySem.W.KeqHits A s vb va (hitsD ns ms)
  | _, _, _, .nil, .nil => .nil
  | (k, v) :: _, (k', d) :: ms, (k2, u) :: va, .cons h hr, .cons r rr => by
    obtain ⟨e, hd, hs⟩ := h
    obtain ⟨e2, rv⟩ := r
    obtain rfl : k = k' := e
    obtain rfl : k = k2 := e2
    have q := rb.val k
    rcases dpK_val hb k with ⟨h1, h2⟩ | ⟨v', d', h1, h2, hd', hs'⟩
    · rw [h1] at q
      have none2 : valueAt vb k = none := by
        cases z : valueAt vb k with
        | none => rfl
        | some y => rw [z] at q; exact q.elim
      show PySem.W.KeqHits A s vb ((k, u) :: va) (match valD ns k with | none => false | some e => PyData.eqv d e && hitsD ns ms)
      rw [h2]
      exact .miss none2
    · rw [h1] at q
      cases z : valueAt vb k with
      | none => rw [z] at q; exact q.elim
      | some y =>
        rw [z] at q
        show PySem.W.KeqHits A s vb ((k, u) :: va) (match valD ns k with | none => false | some e => PyData.eqv d e && hitsD ns ms)
        rw [h2]
        obtain ⟨as, r1⟩ := Dp.reads I d v u hd rv
        obtain ⟨bs, r2⟩ := Dp.reads I d' v' y hd' q
        exact .hit z (SeqAt.eqAt_reads d d' A s u y as bs r1 r2 (SeqAt.canLay_of_shaped hs) (SeqAt.canLay_of_shaped hs') (SeqAt.room_of_shaped hs hu)) (hits_dd I hu hb rb hr rr)
def rDD (K : PySem.W.Frag) (neg : Bool) : R2 := fun x y H Q => ∃ a b ks ls ms ns, x = .ref a ∧ y = .ref b ∧ Rd H a (.dK ks) ∧ Rd H b (.dK ls) ∧ DpK K H ks ms ∧ DpK K H ls ns ∧ Q (.bl (neg != eqDD ms ns)) H
theorem op_eqDD (hu : X.A.units + 65 < cLine) : OpR X (compareOp .Eq) (rDD X.K false) := by
  intro pins s σ H x y v u Q I rx ry h
  obtain ⟨a, b, ks, ls, ms, ns, rfl, rfl, ea, eb, hm, hn, q⟩ := h
  obtain rfl : v = Value.ref a := rx
  obtain rfl : u = Value.ref b := ry
  obtain ⟨_, ya, va, ra, da⟩ := dk_rd I.hok ea
  obtain ⟨_, yb, vb, rb, db⟩ := dk_rd I.hok eb
  refine PySem.W.keq_eq (knd := mixKind X.prog X.w) (r := hitsD ns ms) ya yb da db (by omega) (fun _ => hits_dd I (by simp; omega) hn rb hm ra) ⟨.bl _, H, I, rfl, ?_⟩
  have l1 : va.length = ms.length := ra.length.symm.trans (Paired.length hm)
  have l2 : vb.length = ns.length := rb.length.symm.trans (Paired.length hn)
  rw [l1, l2]
  have e : (false != eqDD ms ns) = (ms.length == ns.length && hitsD ns ms) := by
    show (false != eqDD ms ns) = eqDD ms ns
    cases eqDD ms ns <;> rfl
  rw [← e]
  exact q
theorem op_neDD (hu : X.A.units + 65 < cLine) : OpR X (compareOp .NotEq) (rDD X.K true) := by
  intro pins s σ H x y v u Q I rx ry h
  obtain ⟨a, b, ks, ls, ms, ns, rfl, rfl, ea, eb, hm, hn, q⟩ := h
  obtain rfl : v = Value.ref a := rx
  obtain rfl : u = Value.ref b := ry
  obtain ⟨_, ya, va, ra, da⟩ := dk_rd I.hok ea
  obtain ⟨_, yb, vb, rb, db⟩ := dk_rd I.hok eb
  refine PySem.W.keq_ne (knd := mixKind X.prog X.w) (r := hitsD ns ms) ya yb da db (by omega) (fun _ => hits_dd I (by simp; omega) hn rb hm ra) ⟨.bl _, H, I, rfl, ?_⟩
  have l1 : va.length = ms.length := ra.length.symm.trans (Paired.length hm)
  have l2 : vb.length = ns.length := rb.length.symm.trans (Paired.length hn)
  rw [l1, l2]
  have e : (true != eqDD ms ns) = (!(ms.length == ns.length && hitsD ns ms)) := by
    show (true != eqDD ms ns) = !eqDD ms ns
    cases eqDD ms ns <;> rfl
  rw [← e]
  exact q
theorem op_inTK {K : PySem.W.Frag} (hK : X.K = K) (hu : X.A.units + 65 < cLine) : OpR X (compareOp .In) (rInT K) := hK ▸ op_inT hu
end
section
variable {X : Cx} {o : Expr} {kws : List Keyword} {ta : TE} {tk : TA} {C f : Addr} {m : Str} {k : Nat} {fd : FuncData} {ps ks : List Str} {sp : Sp} {CX : CXT} {E : XK} {g : List Value → List Value → List Value} {gV : List V → List V → List V} {apos pos : Pos}
def tMethK (C : Addr) (m : Str) (nk : Nat) (sp : Sp) (gV : List V → List V → List V) (E : XK) (ta : TE) (tk : TA) : TE := fun σ H Q => ta σ H fun x H1 => ∃ a dx fs, x = .ref a ∧ H1 a = some (.ins C dx fs) ∧ fs.lookup m = none ∧ tk σ H1 fun zs H2 => zs.length = nk ∧ sp (gV [x] zs) H2 Q E
/-- o.m(k = v, ..) -/
theorem pe_methK0 {pl : Sem Bool} (he : PE X o ta) (c : Cls X.K C) (hm : Meth X.K C m f) (F : FnOk X.prog X.w X.K X.mg X.base CX k f fd ps sp) (hr : Room k X.A) (hb : KBn X.K fd ps 1 ks g gV) (hx : Passes CX X E) (hkw : PK X kws tk)
    (hall : (backToKw pos (keywordEach kws X.env)).all (·.1.isSome) = true := by rfl) (hks : (backToKw pos (keywordEach kws X.env)).filterMap (·.1) = ks := by rfl)
    (hpl : ((backTo pos (starEach [] X.env)).any (·.1) || (backToKw pos (keywordEach kws X.env)).any (·.1.isNone)) = false := by rfl)
    (ht : eval (.Call (.Attribute o m apos) [] kws pos) X.env = (do
      let ov ← eval o X.env
      standAt apos.atName
      let (f, first) ← holding [ov] (getMethod ov m pl)
      callWith pos f first (backTo pos (starEach [] X.env)) (backToKw pos (keywordEach kws X.env))) := by rfl) :
    PE X (.Call (.Attribute o m apos) [] kws pos) (tMethK C m ks.length sp gV E ta tk) := by
  refine ⟨fun pins s σ H Q I h => ?_⟩
  refine PySem.W.methodCall_KW (pl := pl) (thn (he.run pins s σ H _ I h) fun u s1 ⟨x, H1, I1, rx, a, dx, fs, ex, ea, l, q⟩ => ?_) ht
  subst ex
  obtain rfl : u = Value.ref a := rx
  refine getmeth_ok I1 ea c hm l ?_
  refine PySem.W.callWith_KW0 (h₀ := X.base) (first := [.ref a]) I1.ok.mod.kin hm.kp hall ?_ hpl
  refine thn (hkw.run pos pins s1 σ H1 _ I1 q) fun ws s2 ⟨zs, H2, I2, rz, l2, q2⟩ => ⟨I2.kIn, ?_⟩
  rw [hks]
  exact run_fnN (us := [.ref a]) (vs := [.ref a]) F hr hb hx I2 (.cons rfl .nil) rz rfl l2 q2
end
end FR
set_option Elab.async false
set_option linter.all false
set_option maxRecDepth 100000
/-! texts in order: one order alone -/
namespace FR
open PySem PySem.Spec PyProof.Rows
/-- a stands no later than b -/
def leS (a b : Str) : Prop := ltCps b.cps.toList a.cps.toList = false
theorem lt_trans' : ∀ {a b c : List Nat}, ltCps b a = false → ltCps c b = false → ltCps c a = false
  | [], [], [], _, _ => rfl
  | [], [], _ :: _, _, _ => rfl
  | [], _ :: _, [], _, h => by simp [ltCps] at h
  | [], _ :: _, _ :: _, _, _ => rfl
  | _ :: _, [], _, h, _ => by simp [ltCps] at h
  | _ :: _, _ :: _, [], _, h => by simp [ltCps] at h
  | x :: r, y :: t, z :: u, h1, h2 => by
    simp only [ltCps, Bool.or_eq_false_iff, decide_eq_false_iff_not, Bool.and_eq_false_iff, beq_eq_false_iff_ne, Nat.not_lt] at h1 h2 ⊢
    refine ⟨by omega, ?_⟩
    by_cases e : z = x
    · have e1 : y = x := by omega
      have e2 : z = y := by omega
      refine .inr (lt_trans' (h1.2.resolve_left fun n => n e1) (h2.2.resolve_left fun n => n e2))
    · exact .inl e
theorem lt_anti : ∀ {a b : List Nat}, ltCps b a = false → ltCps a b = false → a = b
  | [], [], _, _ => rfl
  | [], _ :: _, _, h => by simp [ltCps] at h
  | _ :: _, [], h, _ => by simp [ltCps] at h
  | x :: r, y :: t, h1, h2 => by
    simp only [ltCps, Bool.or_eq_false_iff, decide_eq_false_iff_not, Bool.and_eq_false_iff, beq_eq_false_iff_ne, Nat.not_lt] at h1 h2
    have e : x = y := by omega
    rw [e, lt_anti (h1.2.resolve_left fun n => n e.symm) (h2.2.resolve_left fun n => n e)]
theorem leS_anti {a b : Str} (h1 : leS a b) (h2 : leS b a) : a = b := by
  obtain ⟨⟨x⟩⟩ := a
  obtain ⟨⟨y⟩⟩ := b
  have := lt_anti h1 h2
  simp only at this
  rw [this]
theorem rising_pair : ∀ {p : Str} {l : List Str}, risingS p l = true → (p :: l).Pairwise leS
  | p, [], _ => by simp
  | p, x :: r, h => by
    simp only [risingS, Bool.and_eq_true, Bool.not_eq_true'] at h
    have ih := rising_pair h.2
    refine List.pairwise_cons.mpr ⟨fun y hy => ?_, ih⟩
    rcases List.mem_cons.mp hy with rfl | m
    · exact h.1
    · exact lt_trans' h.1 ((List.pairwise_cons.mp ih).1 y m)
theorem sorted_pair : ∀ {l : List Str}, sortedS l = true → l.Pairwise leS
  | [], _ => .nil
  | x :: r, h => rising_pair h
theorem sorted_one {xs ys : List Str} (h1 : sortedS xs = true) (h2 : sortedS ys = true) (p : xs.Perm ys) : xs = ys :=
  p.eq_of_pairwise (fun a b _ _ h h' => leS_anti h h') (sorted_pair h1) (sorted_pair h2)
/-- the texts in order -/
noncomputable def srt (xs : List Str) : List Str := open Classical in if h : ∃ ys : List Str, ys.Perm xs ∧ sortedS ys = true then Classical.choose h else []
theorem srt_eq {xs ys : List Str} (p : ys.Perm xs) (h : sortedS ys = true) : ys = srt xs := by
  unfold srt
  have e : ∃ ys : List Str, ys.Perm xs ∧ sortedS ys = true := ⟨ys, p, h⟩
  rw [dif_pos e]
  have c := Classical.choose_spec e
  exact sorted_one h c.2 (p.trans c.1.symm)
theorem srt_perm {xs ys zs : List Str} (p : ys.Perm xs) (h : sortedS ys = true) (q : xs.Perm zs) : srt xs = srt zs := by
  rw [← srt_eq p h, ← srt_eq (p.trans q) h]
section
open L2
variable {X : Cx} {tg : Expr}
def iSeq (K : PySem.W.Frag) (tl : TE) : TI := fun σ H R => tl σ H fun x H1 => ∃ a, x = .ref a ∧ ((∃ xs, SqL K H1 a xs ∧ R (Itl K a) H1) ∨ ∃ xs, SqT K H1 a xs ∧ R (Itt K a) H1)
/-- a list or a tuple, walked -/
theorem pi_seq {l : Expr} {tl : TE} (hl : PE X l tl) : PI X tg l (iSeq X.K tl) := by
  refine ⟨fun pins s σ H R I h => ?_⟩
  refine thn (hl.run pins s σ H _ I h) fun v s1 ⟨x, H1, I1, r1, q1⟩ => ?_
  obtain ⟨a, rfl, ⟨xs, hq, q⟩ | ⟨xs, hq, q⟩⟩ := q1
  · cases r1
    obtain ⟨its, rv, p, hz⟩ := I1.list hq
    exact wpAny_pyIter_list p.isList (pi_one I1 _ (turn_list a _) ⟨_, Heap.get?_push_size _ rfl, rfl, rfl⟩ q)
  · cases r1
    obtain ⟨its, rv, p, hz⟩ := I1.tuple hq
    exact wpAny_pyIter_tuple (show s1.heap.IsTuple a its.toArray from p) (pi_one I1 _ (turn_tuple a _) ⟨_, Heap.get?_push_size _ rfl, rfl, rfl⟩ q)
variable {J : It} {n : Nat} {G : Hp → Prop} {Y : Nat → Hp → V → Hp → Prop}
theorem round_it (w : Walk J n G Y) {g : TG} {σ0 : L2.St} {B : L2.St → Hp → (Hp → Prop) → Prop} {Qd : Hp → Prop} (Pv : Nat → Hp → Prop) (hG : ∀ i H, i ≤ n → Pv i H → G H)
    (hs : ∀ i x H H', i < n → Pv i H → Y i H x H' → g x σ0 H' fun σ2 H2 => B σ2 H2 (Pv (i + 1))) (hd : ∀ H, Pv n H → Qd H) : Round J g σ0 B Qd (fun i m H => m = n - i ∧ i ≤ n ∧ Pv i H) := by
  rintro i m H ⟨rfl, hi, p⟩
  have q := hG i H hi p
  by_cases lt : i < n
  · exact .inr ⟨w.goes i H lt q, Pv (i + 1), fun H' p' => ⟨n - (i + 1), by omega, rfl, lt, p'⟩, fun x H' y => hs i x H H' lt p (w.yields i H x H' lt q y)⟩
  · have e : i = n := by omega
    subst e
    exact .inl ⟨w.stops H q, hd H p⟩
theorem dc_it (w : Walk J n G Y) {g : TG} {tt : TT} {tk tv : TE} {vs : List Nat} {σ : L2.St} {H1 : Hp} {D : Addr} {Qd : Hp → Prop} (Pv : Nat → Hp → Prop) (h0 : Pv 0 (upd H1 D (.dK []))) (hG : ∀ i H, i ≤ n → Pv i H → G H)
    (hs : ∀ i x H H', i < n → Pv i H → Y i H x H' → g x (wipe σ vs) H' fun σ2 H2 => wipe σ2 vs = wipe σ vs ∧ tt σ2 H2 fun b H3 =>
      if b = true then tk σ2 H3 fun y H4 => tv σ2 H4 fun z H5 => ∃ kvs k, y = kV k ∧ H5 D = some (.dK kvs) ∧ kvs.length < sizeLine ∧ Pv (i + 1) (upd H5 D (.dK (putK kvs k z))) else Pv (i + 1) H3) (hd : ∀ H, Pv n H → Qd H) :
    ∃ W : Nat → Nat → Hp → Prop, (∃ m, W 0 m (upd H1 D (.dK []))) ∧ ∀ i m H, W i m H →
      (J.stop i H ∧ Qd H) ∨ (J.go i H ∧ ∃ Nx : Hp → Prop, (∀ H', Nx H' → ∃ m', m' < m ∧ W (i + 1) m' H') ∧ ∀ x H', J.yld i H x H' → g x (wipe σ vs) H' fun σ2 H2 => wipe σ2 vs = wipe σ vs ∧ tt σ2 H2 fun b H3 =>
        if b = true then tk σ2 H3 fun y H4 => tv σ2 H4 fun z H5 => ∃ kvs k, y = kV k ∧ H5 D = some (.dK kvs) ∧ kvs.length < sizeLine ∧ Nx (upd H5 D (.dK (putK kvs k z))) else Nx H3) :=
  ⟨fun i m H => m = n - i ∧ i ≤ n ∧ Pv i H, ⟨n, by simp, Nat.zero_le _, h0⟩, fun i m H ⟨e, hi, p⟩ => by
    subst e
    have q := hG i H hi p
    by_cases lt : i < n
    · exact .inr ⟨w.goes i H lt q, Pv (i + 1), fun H' p' => ⟨n - (i + 1), by omega, rfl, lt, p'⟩, fun x H' y => hs i x H H' lt p (w.yields i H x H' lt q y)⟩
    · have e : i = n := by omega
      subst e
      exact .inl ⟨w.stops H q, hd H p⟩⟩
/-- a lock taken off again leaves nothing -/
theorem keep_lock {H H' : Hp} {d : Addr} {u : HO} {od : Obj} {M : List Addr} (hd : H d = some u) (k : Keep M (upd H d (.frz od u)) H') : Keep M H (upd H' d u) := fun b o e hb => by
  by_cases c : b = d
  · subst c
    rw [upd_same]
    rw [hd] at e
    exact e
  · rw [upd_ne c]
    exact k b o (by rw [upd_ne c]; exact e) hb
end
end FR
set_option Elab.async false
set_option linter.all false
set_option maxRecDepth 100000
/-! rules for within a block: the written part of the context is given by hand -/
namespace FR
open PySem PySem.Spec PyProof.Rows L2
section
variable {X : Cx} {K : PySem.W.Frag} {e : Expr} {f : Str} {pos : Pos} {ta : TE} {tg : Expr}
theorem pe_fldK (h : X.K = K) (he : PE X e ta) (hb : attributeBase e f X.env (eval e X.env) = eval e X.env) : PE X (.Attribute e f pos) (tFld K ta f) := h ▸ pe_fld he hb
theorem pi_tupK (h : X.K = K) (he : PE X e ta) : PI X tg e (iTup K ta) := h ▸ pi_tup he
theorem pi_listK (h : X.K = K) (he : PE X e ta) : PI X tg e (iList K ta) := h ▸ pi_list he
def rTupOf (K : PySem.W.Frag) : List V → Hp → VK → Prop := fun xs H Q => ∃ p ys, xs = [.ref p] ∧ ((SqL K H p ys ∧ ∀ l, H l = none → Q (.ref l) (upd H l (.tup ys))) ∨ (SqT K H p ys ∧ Q (.ref p) H))
theorem call_tuple_ofK (h : X.K = K) : CallR X (.type "tuple") (rTupOf K) := h ▸ call_tuple_of
theorem call_lofNK (h : X.K = K) : CallR X (.type "list") (rLofN K) := h ▸ call_lofN
end
end FR
set_option Elab.async false
set_option linter.all false
set_option maxRecDepth 100000
/-! x(..) where x is a local instance whose class has __call__ -/
namespace FR
open PySem PySem.Spec PyProof.Rows L2
theorem fn_of {K : PySem.W.Frag} {x qual : Str} {st : Stmt} {f : Addr} {fd : FuncData} (F : L2.Fun K x qual st f fd) : PySem.W.fnIn K f = true := by
  obtain ⟨oc, od, kV, doc, pm, an, cdv, ct, osl, e, lk, _⟩ := F.ex
  unfold PySem.W.fnIn
  rw [lk]
section
variable {M : Model} {A : Around} {E : Value → Shared → Prop} {s : Shared} {pos : Pos} {f : Value} {first : List Value} {Q : Value → Shared → Prop}
/-- a callee whose answer its caller keeps -/
theorem with_caller {args : List (Bool × Sem Value)} {keywords : List (Option Str × Sem Value)} (plain : (args.any (·.1) || keywords.any (·.1.isNone)) = false)
    (h : wpAny M A (evalArgs f true args keywords) (fun a t => PySem.W.Looks M t.heap (keeperOf f) .caller ∧ wpAny M A (call f (first ++ a.pos) a.kw) Q E t) E s) : wpAny M A (callWith pos f first args keywords) Q E s := by
  unfold callWith
  apply wpAny_bind
  apply wpAny_holding
  refine wpAny_mono h (fun a t z => ?_) (fun _ _ y => y)
  obtain ⟨L, z⟩ := z
  apply wpAny_bind
  apply wpAny_standAt
  simp only [plain]
  apply wpAny_bind
  refine L.here ?_
  dsimp only
  apply wpAny_bind
  refine wpAny_mono (wpAny_operateT z) (fun r u hr => ?_) (fun _ _ y => y)
  apply wpAny_bind
  apply wpAny_holding
  exact wpAny_point (wpAny_pure hr)
end
section
variable {X : Cx} {CX : CXT} {k n : Nat} {f C : Addr} {fd : FuncData} {ps ks : List Str} {sp : Sp} {dvs : List V} {ds : List Value} {E : XK} {x : Str} {p pos : Pos} {i : Nat} {e : Expr} {es : List Expr} {kws : List Keyword} {t tk : TA} {g : List Value → List Value → List Value} {gV : List V → List V → List V}
/-- the class at C has the def at f for its calls -/
structure CallsBy (K : PySem.W.Frag) (C f : Addr) : Prop where
  find : PySem.W.findIn K (.ref C) "__call__" = some (some (.ref f))
  isf : PySem.W.isFn K (.ref f) = true
  fnI : PySem.W.fnIn K f = true
def tInst (i : Nat) (C : Addr) (sp : Sp) (dvs : List V) (E : XK) (t : TA) : TE := fun σ H Q => ∃ a, σ[i]? = some (some (.ref a)) ∧ t σ H fun vs H1 => (∃ dx fs, H1 a = some (.ins C dx fs)) ∧ sp (.ref a :: (vs ++ dvs)) H1 Q E
def tInstK (i : Nat) (C : Addr) (m : Nat) (sp : Sp) (gV : List V → List V → List V) (E : XK) (tk : TA) : TE := fun σ H Q => ∃ a, σ[i]? = some (some (.ref a)) ∧ tk σ H fun zs H1 => (∃ dx fs, H1 a = some (.ins C dx fs)) ∧ zs.length = m ∧ sp (gV [.ref a] zs) H1 Q E
theorem pe_inst (hv : PE X (.Name x p) (tVar i)) (c : CallsBy X.K C f) (F : FnOk X.prog X.w X.K X.mg X.base CX k f fd ps sp) (hr : Room k X.A) (hb : Binds X.K fd ps ds) (hd : Vals dvs ds) (hx : Passes CX X E) (ha : PA X (e :: es) t)
    (he : starEach (e :: es) X.env = (false, eval e X.env) :: starEach es X.env := by rfl) (hpl : (backTo pos (starEach es X.env)).any (·.1) = false := by rfl) :
    PE X (.Call (.Name x p) (e :: es) [] pos) (tInst i C sp dvs E t) := by
  refine ⟨fun pins s σ H Q I h => ?_⟩
  obtain ⟨a, h1, h2⟩ := h
  refine wpAny_Call_Name_kw (thn (hv.run pins s σ H (fun v H' => v = .ref a ∧ t σ H' fun vs H1 => (∃ dx fs, H1 a = some (.ins C dx fs)) ∧ sp (.ref a :: (vs ++ dvs)) H1 Q E) I ⟨_, h1, rfl, h2⟩) fun u s1 hh => ?_)
  obtain ⟨v, H1, I1, r1, rfl, q⟩ := hh
  cases (show u = Value.ref a from r1)
  have run := ha.run pos pins s1 σ H1 _ I1 q
  rw [he] at run ⊢
  refine with_caller (by show ((false || (backTo pos (starEach es X.env)).any (·.1)) || false) = false; rw [hpl]; rfl) (PySem.Calls.evalArgs_plain ?_)
  refine wpAny_mono run (fun us s2 hz => ?_) (fun _ _ y => y)
  obtain ⟨vs, H2, I2, r2, ⟨dx, fs, ea⟩, q2⟩ := hz
  obtain ⟨od, J⟩ := ins_inst I2 ea
  refine ⟨PySem.W.kco_keeper J rfl, ?_⟩
  have r3 : Vals (.ref a :: (vs ++ dvs)) (.ref a :: (us ++ ds)) := .cons rfl (r2.append hd)
  have hl : ((Value.ref a :: us) ++ ds).length = ps.length := by rw [← F.len _ _ _ _ q2, r3.length]; rfl
  refine wpAny_call (PySem.W.kco_code I2.kIn J rfl c.find c.isf c.fnI (codeAny_mono (F.run X.A X.stack s2 H2 ⟨.ref a :: us, []⟩ (.ref a :: (us ++ ds)) (.ref a :: (vs ++ dvs)) Q E hr I2.env0 (hb s2 (.ref a :: us) I2.kIn hl) r3 q2) fun r s' hq => ?_))
  cases r with
  | error e => exact hx pins σ H2 s2 e s' I2 hq
  | ok fl =>
    cases fl with
    | ret u => exact I2.after hq
    | next => exact False.elim hq
    | brk => exact False.elim hq
    | cont => exact False.elim hq
theorem pe_instK (hv : PE X (.Name x p) (tVar i)) (c : CallsBy X.K C f) (F : FnOk X.prog X.w X.K X.mg X.base CX k f fd ps sp) (hr : Room k X.A) (hb : KBn X.K fd ps 1 ks g gV) (hx : Passes CX X E) (hkw : PK X kws tk)
    (hall : (backToKw pos (keywordEach kws X.env)).all (·.1.isSome) = true := by rfl) (hks : (backToKw pos (keywordEach kws X.env)).filterMap (·.1) = ks := by rfl)
    (hpl : ((backTo pos (starEach [] X.env)).any (·.1) || (backToKw pos (keywordEach kws X.env)).any (·.1.isNone)) = false := by rfl) :
    PE X (.Call (.Name x p) [] kws pos) (tInstK i C ks.length sp gV E tk) := by
  refine ⟨fun pins s σ H Q I h => ?_⟩
  obtain ⟨a, h1, h2⟩ := h
  refine wpAny_Call_Name_kw (thn (hv.run pins s σ H (fun v H' => v = .ref a ∧ tk σ H' fun zs H1 => (∃ dx fs, H1 a = some (.ins C dx fs)) ∧ zs.length = ks.length ∧ sp (gV [.ref a] zs) H1 Q E) I ⟨_, h1, rfl, h2⟩) fun u s1 hh => ?_)
  obtain ⟨v, H1, I1, r1, rfl, q⟩ := hh
  cases (show u = Value.ref a from r1)
  refine with_caller hpl (evalArgs_kw2_nil hall ?_)
  refine wpAny_mono (hkw.run pos pins s1 σ H1 _ I1 q) (fun ws s2 hz => ?_) (fun _ _ y => y)
  obtain ⟨zs, H2, I2, rz, ⟨dx, fs, ea⟩, l2, q2⟩ := hz
  obtain ⟨od, J⟩ := ins_inst I2 ea
  refine ⟨PySem.W.kco_keeper J rfl, ?_⟩
  rw [hks]
  have r1 : Vals [V.ref a] [Value.ref a] := .cons rfl .nil
  refine wpAny_call (PySem.W.kco_code I2.kIn J rfl c.find c.isf c.fnI (codeAny_mono (F.run X.A X.stack s2 H2 ⟨[.ref a], ks.zip ws⟩ (g [.ref a] ws) (gV [.ref a] zs) Q E hr I2.env0 (hb.to s2 [.ref a] ws I2.kIn rfl (rz.length.symm.trans l2)) (hb.rel r1 rz) q2) fun r s' hq => ?_))
  cases r with
  | error e => exact hx pins σ H2 s2 e s' I2 hq
  | ok fl =>
    cases fl with
    | ret u => exact I2.after hq
    | next => exact False.elim hq
    | brk => exact False.elim hq
    | cont => exact False.elim hq
end
end FR
set_option Elab.async false
set_option linter.all false
set_option maxRecDepth 100000
/-! == of two instances of one class that has no == of its own -/
namespace FR
open PySem PySem.Spec PyProof.Rows L2
section
variable {prog : Program} {w : World} {A : Around} {E : Value → Shared → Prop} {s : Shared} {K : PySem.W.Frag} {x y C : Addr} {ox oy : Obj} {od od' : Option Obj}
theorem call_objEq2 {Q : Value → Shared → Prop} (hxy : x ≠ y) (X : K.In s.heap) (I : PySem.W.InstAt s.heap x ox C od) (J : PySem.W.InstAt s.heap y oy C od') (hm : PySem.W.mroIn K C (.type "object") = some true) (hn : ox.cls ≠ .type "tuple") (hq : Q .notImplemented s) :
    wpAny (model prog w) A (call (.builtin "object.__eq__") [.ref x, .ref y]) Q E s := by
  refine wpAny_call (codeAny_call_builtin F.cmp_object.eq.plain F.cmpEntry_eq (PySem.W.check_slot F.cmpKind_eq F.cmpSplit_eq (I.type.andThen (PySem.W.looks_mroIn X hm)) (F.cmpArgs_eq _ _) ?_))
  unfold Builtin.«object.__eq__»
  repeat (first | with_reducible refine wpAny_isSame_ref_other hxy I.at_ J.at_ hn ?_ | wp_step)
  exact hq
theorem eq_insts {Q : Value → Shared → Prop} (hxy : x ≠ y) (hu : A.units < cLine) (X : K.In s.heap) (I : PySem.W.InstAt s.heap x ox C od) (J : PySem.W.InstAt s.heap y oy C od') (hm : PySem.W.mroIn K C (.type "object") = some true)
    (hs : PySem.W.findIn K (.ref C) "__eq__" = some (some (.builtin "object.__eq__"))) (hn : ox.cls ≠ .type "tuple") (hn' : oy.cls ≠ .type "tuple") (h : Q (.bool false) s) : wpAny (model prog w) A (richCompare .Eq (.ref x) (.ref y)) Q E s := by
  have one : wpAny (model prog w) A (tryCompare (.ref x) "__eq__" (.ref y)) (fun r s' => r = none ∧ s' = s) E s := by
    unfold tryCompare
    exact wpAny_bind (HN.ifBound_objEq X I hs (call_objEq2 hxy X I J hm hn (wpAny_pure ⟨rfl, rfl⟩)))
  have two : wpAny (model prog w) A (tryCompare (.ref y) "__eq__" (.ref x)) (fun r s' => r = none ∧ s' = s) E s := by
    unfold tryCompare
    exact wpAny_bind (HN.ifBound_objEq X J hs (call_objEq2 (Ne.symm hxy) X J I hm hn' (wpAny_pure ⟨rfl, rfl⟩)))
  simp only [richCompare, cmpInfo_Eq, oneThing_ref]
  refine wpAny_holding (wpAny_bind (wpAny_cRoomFor hu ?_))
  refine wpAny_bind (I.type.here (wpAny_bind (J.type.here ?_)))
  simp only [bne_self_eq_false, Bool.false_eq_true, if_false, Bool.not_false, if_true]
  refine wpAny_bind (wpAny_pure ?_)
  simp only [Bool.false_eq_true, if_false, Bool.not_false, if_true]
  refine wpAny_bind (m := tryCompare (.ref x) _ (.ref y)) (wpAny_mono one (fun r s1 z => ?_) fun _ _ e => e)
  obtain ⟨rfl, rfl⟩ := z
  refine wpAny_bind (m := tryCompare (.ref y) _ (.ref x)) (wpAny_mono two (fun r s2 z => ?_) fun _ _ e => e)
  obtain ⟨rfl, rfl⟩ := z
  exact wpAny_bind (wpAny_rule (wpAny_bind (wpAny_isSame_ref_other hxy I.at_ J.at_ hn (wpAny_pure h))))
end
section
variable {X : Cx} {C : Addr}
def rEqObj (C : Addr) : R2 := fun x y H Q => ∃ a dx fs b dy gs, x = .ref a ∧ y = .ref b ∧ a ≠ b ∧ H a = some (.ins C dx fs) ∧ H b = some (.ins C dy gs) ∧ Q (.bl false) H
theorem op_eqObj (hm : PySem.W.mroIn X.K C (.type "object") = some true) (hs : PySem.W.findIn X.K (.ref C) "__eq__" = some (some (.builtin "object.__eq__"))) (hu : X.A.units < cLine) : OpR X (compareOp .Eq) (rEqObj C) := by
  intro pins s σ H x y v u Q I rx ry h
  obtain ⟨a, dx, fs, b, dy, gs, rfl, rfl, ne, ha, hb, q⟩ := h
  cases (show v = Value.ref a from rx)
  cases (show u = Value.ref b from ry)
  obtain ⟨od, J⟩ := ins_inst I ha
  obtain ⟨od', J'⟩ := ins_inst I hb
  show wpAny _ _ (richCompare .Eq (.ref a) (.ref b)) _ _ _
  exact eq_insts ne hu I.kIn J J' hm hs (fun z => by cases z) (fun z => by cases z) ⟨.bl false, H, I, rfl, q⟩
end
end FR
set_option Elab.async false
set_option linter.all false
set_option maxRecDepth 100000
/-! a datum in a list of data, inside a comprehension -/
namespace FR
open PySem PySem.Spec PyProof.Rows L2
theorem op_inDK {X : Cx} {K : PySem.W.Frag} (hK : X.K = K) (hu : X.A.units + 65 < cLine) : OpR X (compareOp .In) (rInD K) := hK ▸ op_inD hu
end FR
set_option Elab.async false
set_option linter.all false
set_option maxRecDepth 100000
/-! C(..) in a try: what the __init__ lets out is taken at the slots of the moment -/
namespace FR
open PySem PySem.Spec PyProof.Rows L2
def tMakeS (C : Addr) (sp : Sp) (E : L2.St → XK) (t : TA) : TE := fun σ H Q => t σ H fun vs H1 =>
  ∀ x dx, H1 x = none → H1 dx = none → dx ≠ x → sp (.ref x :: vs) (upd (upd H1 dx (.own x)) x (.ins C dx [])) (fun v H2 => v = .non ∧ Q (.ref x) H2) (E σ)
section
variable {X : Cx} {CX : CXT} {k : Nat} {f C : Addr} {fd : FuncData} {ps : List Str} {sp : Sp} {E : L2.St → XK} {x : Str} {p pos : Pos} {e : Expr} {es : List Expr} {t : TA}
theorem pe_makeS (M : Mk X.K C f) (F : FnOk X.prog X.w X.K X.mg X.base CX k f fd ps sp) (hr : Room (k + 1) X.A) (hg : Gl X x) (hm : X.mg x = some (.ref C)) (hb : Binds X.K fd ps []) (hx : ∀ σ, PassesAt CX X σ (E σ)) (ha : PA X (e :: es) t)
    (hdb : (x == ("__debug__" : Str)) = false := by decide)
    (he : starEach (e :: es) X.env = (false, eval e X.env) :: starEach es X.env := by rfl)
    (hpl : (backTo pos (starEach es X.env)).any (·.1) = false := by rfl) : PE X (.Call (.Name x p) (e :: es) [] pos) (tMakeS C sp E t) := by
  refine ⟨fun pins s σ H Q I h => wpAny_Call_Name_kw (ld_glob I hg hm ?_ hdb)⟩
  refine PySem.W.callWith_K (h₀ := X.base) I.ok.mod.kin M.kp (thn (ha.run pos pins s σ H _ I h) fun us s1 hh => ?_) he hpl
  obtain ⟨vs, H1, I1, rv, z⟩ := hh
  refine ⟨I1.kIn, ?_⟩
  have z0 := z (s1.heap.objs.size + 1) s1.heap.objs.size (I1.hok.fresh (Nat.le_succ _)) (I1.hok.fresh (Nat.le_refl _)) (Nat.ne_of_lt (Nat.lt_succ_self _))
  have I2 := Inv.made (C := C) I1
  have r2 : Vals (V.ref (s1.heap.objs.size + 1) :: vs) (Value.ref (s1.heap.objs.size + 1) :: us) := .cons rfl rv
  have hl : (Value.ref (s1.heap.objs.size + 1) :: us).length = ps.length := by
    rw [← r2.length]
    exact F.len _ _ _ _ z0
  have b := hb _ (Value.ref (s1.heap.objs.size + 1) :: us) I2.kIn (by rw [List.append_nil]; exact hl)
  rw [List.append_nil] at b
  refine wpAny_call (make_map (f := f) I1.kIn M.makes M.init (beq_iff_eq.mp M.fn) (codeAny_mono (F.run _ X.stack _ _ ⟨Value.ref (s1.heap.objs.size + 1) :: us, []⟩ _ _ _ (E σ) (hr.make C us []) (I2.env0.make C us []) b r2 z0) fun res s' y => ?_))
  cases res with
  | error e => exact hx σ pins _ _ e s' I2 y
  | ok fl =>
    cases fl with
    | ret u =>
      obtain ⟨v, H', I3, q1, q2, q3⟩ := I2.after y
      subst q2
      exact ⟨q1, ⟨V.ref (s1.heap.objs.size + 1), H', I3, rfl, q3⟩⟩
    | _ => exact y.elim
end
end FR
set_option Elab.async false
set_option linter.all false
set_option maxRecDepth 100000
set_option maxHeartbeats 4000000
/-! anything == a text; a thing == itself -/
namespace FR
open PySem PySem.Spec PyProof.Rows L2 TL PySem.SeqAt
section
variable {X : Cx}
/-- what «v == the text b» gives -/
def EqT (K : PySem.W.Frag) (H : Hp) (v : V) (b : Str) (r : Bool) : Prop :=
  (∃ d, Dp K H v d ∧ SeqAt.shaped d = true ∧ SeqAt.shaped (.str b) = true ∧ PyData.eqv d (.str b) = r) ∨ ∃ (a : Addr) (kvs : List (Key × V)), v = .ref a ∧ H a = some (.dK kvs) ∧ false = r
def rEqT (K : PySem.W.Frag) : R2 := fun x y H Q => ∃ (b : Str) (r : Bool), y = .str b ∧ EqT K H x b r ∧ Q (.bl r) H
theorem op_eqT (hu : X.A.units + 65 < cLine) : OpR X (compareOp .Eq) (rEqT X.K) := by
  intro pins s σ H x y v u Q I rx ry h
  obtain ⟨b, r, rfl, ⟨d, hd, s1, s2, rfl⟩ | ⟨a, kvs, rfl, ha, rfl⟩, q⟩ := h
  · exact op_eqD (by omega) pins s σ H x _ v u Q I rx ry ⟨d, .str b, hd, .str b, s1, s2, q⟩
  · cases (show v = Value.ref a from rx)
    obtain ⟨t, rfl⟩ : ∃ t, u = Value.str b t := ry
    obtain ⟨_, _, vs, kv, o, es, ep, e, hx, hd, _, _, _⟩ := (show ObjOk X.prog X.w H s.heap a (.dK _) from I.hok _ _ ha)
    have td : s.TypeIs (.ref a) "dict" := ⟨o, e, hx.1⟩
    have ts : s.TypeIs (.str b t) "str" := typeIs_str s b t
    obtain ⟨cls, dd, data, sl⟩ := o
    obtain rfl : cls = .type "dict" := hx.1
    obtain rfl : data = .dict es ep := hd
    refine PySem.W.cmp_ofEq (rc_eq_decline_or (k := false) td ts (by decide) F.sub_str_dict F.slot_dict_eq F.slot_str_eq_refl
      (fun _ hq => call_meets F.slot_dict_eq td F.entry_dict_eq (F.args_dict_eq_2 _ _) (dict_eq_str b t a (.type "dict") es ep dd sl) ⟨e, hq⟩)
      (fun _ hq => call_meets F.slot_str_eq_refl ts F.entry_str_eq (F.args_str_eq_2 _ _) (str_eq_dict b t a (.type "dict") es ep dd sl) ⟨e, hq⟩)
      (fun _ hq => wpAny_of_eq (rfl : isSame (.ref a) (.str b t) = pure false) hq) (.inr (by omega)) ⟨.bl false, H, I, rfl, q⟩)
theorem eqAt_id {A : Around} {s : Shared} (v : Value) : EqAt A s v v true := fun prog w E Q h => by
  unfold eqBool
  exact wpAny_holding (wpAny_ite_split (fun _ => wpAny_bind (wpAny_rule (wpAny_pure h))) (fun n => absurd (beq_self_eq_true v) n))
/-- a thing that equals itself -/
def Self (K : PySem.W.Frag) (H : Hp) (x : V) : Prop := (∃ d, Dp K H x d ∧ SeqAt.shaped d = true ∧ PyData.eqv d d = true) ∨ (∃ a xs, x = .ref a ∧ SqL K H a xs) ∨ ∃ a ks ms, x = .ref a ∧ Rd H a (.dK ks) ∧ DpK K H ks ms ∧ eqDD ms ms = true
def rSelf (K : PySem.W.Frag) : R2 := fun x y H Q => x = y ∧ Self K H x ∧ Q (.bl true) H
theorem op_eqSelf (hu : X.A.units + 65 < cLine) : OpR X (compareOp .Eq) (rSelf X.K) := by
  intro pins s σ H x y v u Q I rx ry h
  obtain ⟨rfl, ⟨d, hd, s1, e⟩ | ⟨a, xs, rfl, hs⟩ | ⟨a, ks, ms, rfl, ha, hm, e⟩, q⟩ := h
  · exact op_eqD (by omega) pins s σ H x _ v u Q I rx ry ⟨d, d, hd, hd, s1, s1, by rw [e]; exact q⟩
  · cases (show v = Value.ref a from rx)
    cases (show u = Value.ref a from ry)
    obtain ⟨its, rv, hl, _⟩ := I.list hs
    refine SeqAt.eq_listAt (e := fun _ => true) hl.isList hl.isList rfl (by omega) (fun j h1 h2 => eqAt_id _) ⟨.bl true, H, I, ?_, q⟩
    show Value.bool _ = Value.bool true
    simp
  · exact op_eqDD hu pins s σ H _ _ v u Q I rx ry ⟨a, a, ks, ks, ms, ms, rfl, rfl, ha, ha, hm, hm, by rw [e]; exact q⟩
theorem op_eqSelfK {X : Cx} {K : PySem.W.Frag} (h : X.K = K) (hu : X.A.units + 65 < cLine) : OpR X (compareOp .Eq) (rSelf K) := h ▸ op_eqSelf hu
end
end FR
set_option Elab.async false
set_option linter.all false
set_option maxRecDepth 100000
set_option maxHeartbeats 4000000
/-! exceptions of the program over a built-in class that is made by another one's maker (KeyError by LookupError's) -/
namespace PySem
namespace ExM
open PySem.W PySem.Calls PyProof.Rows PySem.HandSPX Builtin Builtin.ObjectAttr
/-- what is asked of the classes behind the program's own -/
structure Rear (B : String) (tl : List Value) : Prop where
  b : tl.contains (.type B) = true
  o : tl.contains (.type "object") = true
  a : tl.contains (.type "AttributeError") = false
  n : tl.contains (.type "NameError") = false
  ne : tl.isEmpty = false
  ps : ∀ self : Value, refuseLoop self "__setattr__" tl = pure ()
def keyTail : List Value := [.type "KeyError", .type "LookupError", .type "Exception", .type "BaseException", .type "object"]
def lookTail : List Value := [.type "LookupError", .type "Exception", .type "BaseException", .type "object"]
theorem rear_key : Rear "LookupError" keyTail := ⟨by decide +kernel, by decide +kernel, by decide +kernel, by decide +kernel, rfl, fun self => by kernel_rfl⟩
theorem rear_look : Rear "LookupError" lookTail := ⟨by decide +kernel, by decide +kernel, by decide +kernel, by decide +kernel, rfl, fun self => by kernel_rfl⟩
/-- some of the program's classes ahead of these -/
inductive Over (tl : List Value) : List Value → Prop
  | base : Over tl tl
  | ref (c : Addr) {l : List Value} : Over tl l → Over tl (.ref c :: l)
theorem Rear.ref {B : String} {l : List Value} (ih : Rear B l) (c : Addr) : Rear B (.ref c :: l) := by
  refine ⟨?_, ?_, ?_, ?_, rfl, fun self => by rw [refuseLoop_ref]; exact ih.ps self⟩
  · rw [List.contains_cons, ih.b, Bool.or_true]
  · rw [List.contains_cons, ih.o, Bool.or_true]
  · rw [List.contains_cons, ih.a]; rfl
  · rw [List.contains_cons, ih.n]; rfl
theorem Over.rear {B : String} {tl l : List Value} (r : Rear B tl) (h : Over tl l) : Rear B l := by
  induction h with
  | base => exact r
  | ref c _ ih => exact ih.ref c
section
variable {M : Model} {A : Around} {E : Value → Shared → Prop} {hp : Heap} {gs : Array GenState} {dr : Drawn} {tk : Nat} {os : OsState}
variable {nm q : Str} {C N : Addr} {bs bm bB : List Value} {hd : Bool} {sn : List Str} {sub : List Value} {ab : Bool} {col : Option Bool} {dd : Option Addr} {k0 k1 k2 k3 k5 : Option Value} {B newId initId : String}
theorem check_newM (F : ExcBaseFacts B newId initId bB) (r : Rear B bm) {xs : List Value} {Q : Unit → Shared → Prop}
    (hC : hp.get? C = some (excClassObj nm q C N bs bm hd sn sub ab col dd k0 k1 k2 k3 k5 newId)) (z : Q () ⟨hp, gs, dr, tk, os⟩) :
    wpAny M A (checkBuiltinCall newId ⟨.ref C :: xs, []⟩) Q E ⟨hp, gs, dr, tk, os⟩ := by
  have c1 : (Value.ref C :: bm).contains (.type B) = true := by
    rw [List.contains_cons, r.b]
    exact Bool.or_true _
  have c2 := F.noStar
  unfold checkBuiltinCall
  simp only [F.newKind, F.newSplit, F.newRow]
  repeat (first
    | refine wpAny_loadPart_at hC ?_
    | (refine wpAny_isSubtype_exc hC ?_
       rw [c1])
    | refine wpAny_staticBase_exc hC ?_
    | refine wpAny_madeBy_exc hC ?_
    | simp only [bne_self_eq_false, Bool.false_eq_true, if_false]
    | wp_step)
  exact z
end
section
variable {prog : Program} {w : World} {A : Around} {E : Value → Shared → Prop} {R : Result → Shared → Prop} {hp : Heap} {gs : Array GenState} {dr : Drawn} {tk : Nat} {os : OsState}
variable {nm q : Str} {C N : Addr} {bs bm bB : List Value} {hd : Bool} {sn : List Str} {sub : List Value} {ab : Bool} {col : Option Bool} {dd : Option Addr} {k0 k1 k2 k3 k5 : Option Value} {B newId initId : String}
theorem newM (F : ExcBaseFacts B newId initId bB) (r : Rear B bm) {xs : List Value}
    (hC : hp.get? C = some (excClassObj nm q C N bs bm hd sn sub ab col dd k0 k1 k2 k3 k5 newId)) (hz : xs.length ≤ sizeLine)
    (z : R (.ok (.ret (.ref (hp.objs.size + 1)))) ⟨(hp.push (kdv_tup xs)).push (excO C hp.objs.size), gs, dr, tk, os⟩) :
    codeAny (model prog w) A (.builtin newId ⟨.ref C :: xs, []⟩) R ⟨hp, gs, dr, tk, os⟩ := by
  have ends := F.ends
  have c1 : (Value.ref C :: bm).contains (.type B) = true := by
    rw [List.contains_cons, r.b]
    exact Bool.or_true _
  have c2 : (Value.ref C :: bm).contains (.type "AttributeError") = false := by
    rw [List.contains_cons, r.a]
    rfl
  have c3 : (Value.ref C :: bm).contains (.type "NameError") = false := by
    rw [List.contains_cons, r.n]
    rfl
  refine codeAny_builtinAt F.entry ?_
  unfold Builtin.«BaseException.__new__»
  refine wpAt_bind ?_
  show wpAt _ _ _ (stack >>= fun _ => _) _ _ _
  refine wpAt_bind (wpAt_stack fun fr below => wpAt_of_wpAny ?_)
  wp_walk
  refine wpAt_of_wpAny ?_
  rw [F.owner]
  repeat (first
    | with_reducible refine wpAny_madeHere_exc F.canon hC ?_
    | with_reducible refine wpAny_loadPart_at hC ?_
    | (with_reducible refine wpAny_isSubtype_exc hC ?_
       first | rw [c1] | rw [c2] | rw [c3])
    | wp_step)
  show R _ _
  rw [Heap.size_push]
  exact z
/-- the class called: made, then its own __init__ -/
theorem callM (F : ExcBaseFacts B newId initId bB) (r : Rear B bm) {xs : List Value} {fI : Addr}
    (hC : hp.get? C = some (excClassObj nm q C N bs bm hd sn sub ab col dd k0 k1 k2 k3 k5 newId))
    (hi : W.Looks (model prog w) hp (typeLookup (.ref C) "__init__") (some (.ref fI))) (hb : ∀ self, W.Looks (model prog w) hp (bindSpecial (.ref fI) self) (.ref fI, [self])) (hz : xs.length ≤ sizeLine)
    (z : codeAny (model prog w) (A.under (.builtin "type.__call__" ⟨.ref C :: xs, []⟩)) (.call (.ref fI) ⟨.ref (hp.objs.size + 1) :: xs, []⟩) (W.InitBack (hp.objs.size + 1) R)
      ⟨(hp.push (kdv_tup xs)).push (excO C hp.objs.size), gs, dr, tk, os⟩) :
    codeAny (model prog w) A (.call (.ref C) ⟨xs, []⟩) R ⟨hp, gs, dr, tk, os⟩ := by
  have f1 := tc_lookup
  have f2 := tc_bind (.ref C)
  have ty : (⟨hp, gs, dr, tk, os⟩ : Shared).TypeIs (.ref C) "type" := ⟨_, hC, rfl⟩
  have body : ∀ {A : Around} {Q : Fin → Shared → Prop} {E : Value → Shared → Prop},
      codeAny (model prog w) A (.call (.ref fI) ⟨.ref (hp.objs.size + 1) :: xs, []⟩) (fun r s' => match r with
        | .ok (.ret v) => v = .none ∧ Q (.done (.ret (.ref (hp.objs.size + 1)))) s'
        | .ok _ => False
        | .error e => E e s') ⟨(hp.push (kdv_tup xs)).push (excO C hp.objs.size), gs, dr, tk, os⟩ →
      wpAny (model prog w) A (Builtin.«type.__call__» ⟨.ref C :: xs, []⟩) Q E ⟨hp, gs, dr, tk, os⟩ := by
    intro A Q E hq
    repeat (first
      | with_reducible refine wpAny_loadPart_at hC ?_
      | with_reducible refine wpAny_madeBy_exc hC ?_
      | wp_step)
    refine codeAny_call_builtin_code (Code.quiet_builtin _ F.quiet) (check_newM F r hC ?_)
    refine newM F r hC hz ?_
    show wpAny _ _ _ _ _ _
    have kp : ∀ b o, hp.get? b = some o → ((hp.push (kdv_tup xs)).push (excO C hp.objs.size)).get? b = some o := fun b o e => Heap.get?_push_of_some _ (Heap.get?_push_of_some _ e)
    have hC2 := kp _ _ hC
    have hg : ((hp.push (kdv_tup xs)).push (excO C hp.objs.size)).get? (hp.objs.size + 1) = some (excO C hp.objs.size) := by heap_get
    have cc : (Value.ref C :: bm).contains (.ref C) = true := by simp
    have i2 := hi.keeps kp
    have b2 := (hb (.ref (hp.objs.size + 1))).keeps kp
    unfold isInstance
    repeat (first
      | with_reducible refine wpAny_loadPart_at hg ?_
      | (with_reducible refine wpAny_isSubtype_exc hC2 ?_
         rw [cc])
      | wp_step)
    show wpAny _ _ (typeLookup (.ref C) _) _ _ _
    refine i2.at ?_
    refine wpAny_holding (wpAny_bind (b2.at ?_))
    refine wpAny_bind (wpAny_call (codeAny_mono hq fun res s' y => ?_))
    rcases res with e | fl
    · exact y
    · cases fl with
      | ret v =>
        obtain ⟨rfl, y⟩ := y
        first
          | exact wpAny_pure (wpAny_pure y)
          | (wp_walk; exact y)
      | _ => exact y.elim
  refine codeAny_of_tree ?_
  show wpAny _ _ (callAny (.ref C) _) _ _ _
  repeat (any_goals (first | assumption | with_reducible refine wpAny_loadPart_at hC ?_ | wp_step))
  refine ⟨rfl, ?_⟩
  refine codeAny_call_builtin_at (Code.quiet_builtin _ (by decide +kernel)) entry_typeCall (wpAny_check_type_call_sub hC (body ?_))
  refine codeAny_mono z fun res s' y => ?_
  rcases res with e | (v | _ | _ | _) <;> exact y
/-- self.name = v on one that has no dict yet -/
theorem osaM {K : W.Frag} {name : Str} {tn : Tok} {v : Value} {x : Addr} {fv : Array Value} {cd : ClassData}
    (X : K.In hp) (hx : hp.get? x = some { cls := .ref C, data := .fields fv }) (hcd : W.clsIn K C = some cd) (r : Rear B cd.mro) (hh : cd.hasDict = true) (ha : W.findIn K (.ref C) name = some none)
    (z : ∀ h' tk' dx, (∀ b o, b ≠ x → hp.get? b = some o → h'.get? b = some o) → hp.objs.size ≤ dx → dx ≠ x → h'.get? x = some { cls := .ref C, dict := some dx, data := .fields fv } →
      h'.Ns1 dx (fun y => if y = name then some v else none) → R (.ok (.ret .none)) ⟨h', gs, dr, tk', os⟩) :
    codeAny (model prog w) A (.call (.builtin "object.__setattr__") ⟨[.ref x, .str name tn, v], []⟩) R ⟨hp, gs, dr, tk, os⟩ := by
  have I : W.InstAt hp x { cls := .ref C, data := .fields fv } C none := ⟨hx, rfl, rfl, trivial⟩
  have SF := F.store_object
  have nx : x ≠ hp.objs.size := Nat.ne_of_lt (Heap.lt_size hx)
  have io : W.Looks (model prog w) hp (isInstance (.ref x) (.type "object")) true :=
    I.type.andThen (W.looks_mroIn X (by unfold W.mroIn; rw [hcd, Option.bind_some, if_neg (by rw [r.ne]; decide), r.o]))
  refine codeAny_call_builtin SF.slot.plain SF.entry (@W.check_slot (model prog w) _ _ ⟨hp, gs, dr, tk, os⟩ "object.__setattr__" "object" "__setattr__" (.ref x) [.str name tn, v] [] _ SF.kind SF.split io (SF.args (.ref x) (.str name tn) v) ?_)
  have lm : W.Looks (model prog w) hp (mroOf (.ref C)) cd.mro := (W.looks_clsIn X hcd).andThen .now
  have lt : W.Looks (model prog w) hp (storeTaker? none) none := .now
  have lc : W.Looks (model prog w) hp (classData C) cd := W.looks_clsIn X hcd
  rw [W.osa_eq, refuse_eq]
  refine wpAny_bind (wpAny_bind (I.type.at (wpAny_bind (lm.at ?_))))
  rw [r.ps]
  refine wpAny_pure (wpAny_bind (I.type.at (wpAny_bind ((W.looks_findIn X ha).at (wpAny_bind (lt.at ?_))))))
  show wpAny _ _ (storeInOwnDict (.ref x) (.ref C) (.str name tn) name v false) _ _ _
  obtain ⟨_, _, _, _, _, hd', _, _, _, _, _⟩ := cd
  obtain rfl : hd' = true := hh
  unfold storeInOwnDict ownDictForStores
  repeat (first
    | with_reducible refine store_in_new ?_ ?_
    | with_reducible refine wpAny_loadPart_at hx ?_
    | with_reducible refine lc.at ?_
    | wp_step)
  · exact ⟨_, #[], _, (Heap.get?_update_ne _ _ _ _ nx.symm).trans (Heap.get?_push_at rfl rfl), rfl, fun e he => absurd he (by simp), fun _ => rfl⟩
  · intro h' tk' hn hs
    have hx2 : (hp.push { cls := .type "dict", data := .dict #[] }).get? x = some { cls := .ref C, data := .fields fv } := Heap.get?_push_of_some _ hx
    refine z h' tk' hp.objs.size (fun b o nb ho => ?_) (Nat.le_refl _) nx.symm ?_ hn
    · rw [hs.2 b (Nat.ne_of_lt (Heap.lt_size ho)), Heap.get?_update_ne _ _ _ _ nb]
      exact Heap.get?_push_of_some _ ho
    · rw [hs.2 x nx]
      exact Heap.get?_update_self _ hx2 rfl
end
end ExM
end PySem
set_option Elab.async false
set_option linter.all false
set_option maxRecDepth 100000
set_option maxHeartbeats 2000000
/-! exceptions of the program over KeyError or LookupError with one field, name -/
namespace PySem
namespace ExN
open PySem.W PySem.Calls PyProof.Rows PySem.HandSPX
/-! ### the text of __init__ -/
def iA (p1 p2 : Pos) : Arguments := { posonlyargs := [], args := [{ arg := "self", annotation := none, pos := p1 }, { arg := "name", annotation := none, pos := p2 }], vararg := none, kwonlyargs := [], kw_defaults := [], kwarg := none, defaults := [] }
def iB (q1 q2 q3 q4 : Pos) : List Stmt := [.Assign [.Attribute (.Name "self" q1) "name" q2] (.Name "name" q3) q4]
def iS : Scope := { kind := .function, names := [(PySem.Str.ofString "self", .local), (PySem.Str.ofString "name", .local)], isGenerator := false, isCoroutine := false, more := [] }
/-- what the written part says of Nam, at C, and of its __init__, at fI -/
structure NamTxt (K : Frag) (mg : Str → Option Value) (cn qn : Str) (C fI : Addr) : Prop where
  gC : mg cn = some (.ref C)
  cls : ∃ nm q N bs bm sn sub ab col dd k0 k1 k2 k3 k5, K.lookup C = some (excClassObj nm q C N bs bm true sn sub ab col dd k0 k1 k2 k3 k5 "LookupError.__new__") ∧ ExM.Rear "LookupError" bm
  sa : findIn K (.ref C) "__setattr__" = some (some (.builtin "object.__setattr__"))
  ga : findIn K (.ref C) "__getattribute__" = some (some (.builtin "BaseException.__getattribute__"))
  gg : findIn K (.ref C) "__getattr__" = some none
  noN : findIn K (.ref C) "name" = some none
  iC : findIn K (.ref C) "__init__" = some (some (.ref fI))
  tC : typeIn K (.ref fI) = some (.type "function")
  kC : keepIn K (.ref C) = true
  exC : subIn K (.ref C) (.type "BaseException") = some true
  tyC : typeIn K (.ref C) = some (.type "type")
  hdC : hasDictIn K C = true
  te : exmOne K (.ref C) (.ref C) = some true
  fn : ∃ (oc : Value) (od : Option Addr) (doc pm : Value) (an : Option Addr) (cdv ct : Value) (osl : Array (Option Value)) (p1 p2 q1 q2 q3 q4 : Pos),
    K.lookup fI = some ⟨oc, od, .func (fnOf "__init__" qn (iA p1 p2) (iB q1 q2 q3 q4) iS .none .none doc pm an cdv ct), osl⟩ ∧ codeIn K cdv qn = true
theorem one_size (v : Value) : [v].length ≤ sizeLine := by
  rw [sizeLine_eq]
  exact (by decide : 1 ≤ 16777216)
theorem kept_but {K : Frag} {h h' : Heap} {x : Addr} (X : K.In h) (hx : K.lookup x = none) (k : ∀ b o, b ≠ x → h.get? b = some o → h'.get? b = some o) : K.In h' := fun a o e =>
  k a o (fun z => by rw [z, hx] at e; cases e) (X a o e)
theorem ldC {M : Model} {s : Shared} {name : Str} {scope : Scope} {L a : Addr} {cd : Value} {m : Str → Option Value} {x : Str} {pos : Pos} {v : Value} {Q : Value → Shared → Prop} {A : Around} {E : Value → Shared → Prop} (hn : s.heap.Ns L m) (hv : m x = some v) (h : Q v s)
    (hk : scope.kind = .function := by rfl) (hl : (envOfC name scope L a cd).kindOf x = some .local := by rfl) (hd : (x == ("__debug__" : Str)) = false := by decide) :
    wpAny M A (eval (.Name x pos) (envOfC name scope L a cd)) Q E s := wpAny_Name (wpAny_loadName_local hk hl hn hv h) hd
/-- what __init__ leaves of a fresh exception at x -/
structure InitEnd (h h' : Heap) (x C dx t1 : Addr) (v : Value) : Prop where
  keep : ∀ b o, b ≠ x → h.get? b = some o → h'.get? b = some o
  obj : h'.get? x = some { cls := .ref C, dict := some dx, data := .fields #[.ref t1, .none, .none, .none, .bool false, .none] }
  dbig : h.objs.size ≤ dx
  dne : dx ≠ x
  ns : h'.Ns1 dx (fun y => if y = "name" then some v else none)
/-- a made Nam -/
structure OwnMade (h h' : Heap) (e C d : Addr) (v : Value) : Prop where
  keep : ∀ b o, h.get? b = some o → h'.get? b = some o
  new : h.objs.size ≤ e
  obj : ∃ oe vs, h'.get? e = some oe ∧ oe.cls = .ref C ∧ oe.dict = some d ∧ oe.data = .fields vs ∧ vs[1]? = some .none
  dbig : h.objs.size ≤ d
  dne : d ≠ e
  ns : h'.Ns1 d (fun y => if y = "name" then some v else none)
section
variable {prog : Program} {w : World} {A : Around} {E : Value → Shared → Prop} {R : Result → Shared → Prop} {s : Shared} {K : Frag} {mg : Str → Option Value} {C fI : Addr} {cn qn : Str}
theorem nam_init (T : NamTxt K mg cn qn C fI) {x t0 : Addr} {v : Value} (X : K.In s.heap) (hlim : s.heap.NoLimit) (hx : s.heap.get? x = some (excO C t0)) (hnx : K.lookup x = none) (hroom : A.depth < recursionLimit)
    (hq : ∀ h' tk dx, InitEnd s.heap h' x C dx t0 v → R (.ok (.ret .none)) { s with heap := h', toks := tk }) :
    codeAny (model prog w) A (.call (.ref fI) ⟨[.ref x, v], []⟩) R s := by
  obtain ⟨oc, od, doc, pm, an, cdv, ct, osl, p1, p2, q1, q2, q3, q4, ho, hcd⟩ := T.fn
  obtain ⟨nm, q, N, bs, bm, sn, sub, ab, col, dd, k0, k1, k2, k3, k5, hC, hbm⟩ := T.cls
  have hcl : clsIn K C = some { name := nm, bases := bs, mro := .ref C :: bm, ns := N, qualname := q, hasDict := true, slotNames := sn, subclasses := sub, abstract := ab, collection := col, hasDel := false } := by unfold clsIn; rw [hC] <;> rfl
  refine Att.call_fn (binds := [("self", .ref x), ("name", v)]) X hlim ho hcd hroom (BindsTo.of_eq (by first | rfl | with_unfolding_all rfl)) (by first | rfl | decide | with_unfolding_all rfl) (fun s₁ IC => ?_) rfl rfl rfl
  obtain ⟨h₁, tk₁, rfl⟩ := IC.toInCall.same
  have k : ∀ b o, s.heap.get? b = some o → h₁.get? b = some o := IC.toInCall.keep
  have hn := IC.toInCall.ns
  have hxL : s.heap.objs.size ≠ x := Nat.ne_of_gt (Heap.lt_size hx)
  have X₁ : K.In h₁ := X.keeps k
  have hx₁ := k _ _ hx
  -- self.by = by
  show wpAny _ _ (execs _ _) _ _ _
  refine wpAny_execs_cons (plainObj_wpAny_Assign_Attribute ?_)
  refine ldC (v := v) hn (by first | rfl | with_unfolding_all rfl | kernel_rfl) (ldC (v := .ref x) hn (by first | rfl | with_unfolding_all rfl | kernel_rfl) ?_)
  refine set_plain X₁ (ox := excO C t0) (od := none) ⟨hx₁, rfl, rfl, trivial⟩ T.sa ?_
  refine ExM.osaM X₁ hx₁ hcl (show ExM.Rear "LookupError" (.ref C :: bm) from hbm.ref C) rfl T.noN (fun h₃ tk₃ dx k₃ dn dne hx₃ hn₃ => ?_)
  show wpAny _ _ (execs _ _) _ _ _
  have z : s.heap.objs.size < h₁.objs.size := hn.lt
  exact wpAny_execs_nil (hq h₃ tk₃ dx ⟨fun b o hb e => k₃ b o hb (k b o e), hx₃, Nat.le_of_lt (Nat.lt_of_lt_of_le z dn), dne, hn₃⟩)
theorem nam_made (T : NamTxt K mg cn qn C fI) {v : Value} (X : K.In s.heap) (hlim : s.heap.NoLimit) (hroom : A.depth + 1 < recursionLimit)
    (hq : ∀ h' tk e d, OwnMade s.heap h' e C d v → R (.ok (.ret (.ref e))) { s with heap := h', toks := tk }) :
    codeAny (model prog w) A (.call (.ref C) ⟨[v], []⟩) R s := by
  obtain ⟨nm, q, N, bs, bm, sn, sub, ab, col, dd, k0, k1, k2, k3, k5, hC, hbm⟩ := T.cls
  obtain ⟨hp, g, dr, tk, os⟩ := s
  have k : ∀ b o, hp.get? b = some o → ((hp.push (kdv_tup [v])).push (excO C hp.objs.size)).get? b = some o := fun b o e => Heap.get?_push_of_some _ (Heap.get?_push_of_some _ e)
  have hget : ((hp.push (kdv_tup [v])).push (excO C hp.objs.size)).get? (hp.objs.size + 1) = some (excO C hp.objs.size) := by heap_get
  have hnx : K.lookup (hp.objs.size + 1) = none := by
    cases e : K.lookup (hp.objs.size + 1) with
    | none => rfl
    | some o =>
      have z : hp.get? (hp.objs.size + 1) = some o := X _ _ e
      exact absurd (Nat.lt_of_succ_lt (Heap.lt_size z)) (Nat.lt_irrefl _)
  refine ExM.callM F.excBase_LookupError hbm (X _ _ hC) (looks_findIn X T.iC) (fun self => bind_fn X self T.tC) (one_size v) ?_
  refine nam_init (s := ⟨(hp.push (kdv_tup [v])).push (excO C hp.objs.size), g, dr, tk, os⟩) T (X.keeps k) (hlim.keeps k) hget hnx ?_ fun h' tk' dx ⟨k', hx, dn, dne, hns⟩ => ?_
  · show A.depth + 1 < recursionLimit
    exact hroom
  · have old : ∀ b o, hp.get? b = some o → h'.get? b = some o := fun b o e => k' b o (Nat.ne_of_lt (Nat.lt_succ_of_lt (Heap.lt_size e))) (k b o e)
    have z : hp.objs.size + 1 + 1 ≤ dx := by
      first
        | (simpa only [Heap.size_push] using dn)
        | exact dn
        | (have q := dn; rw [Heap.size_push, Heap.size_push] at q; exact q)
    exact ⟨rfl, hq h' tk' (hp.objs.size + 1) dx ⟨old, Nat.le_succ _, ⟨_, _, hx, rfl, rfl, rfl, rfl⟩, Nat.le_trans (Nat.le_trans (Nat.le_succ _) (Nat.le_succ _)) z, dne, hns⟩⟩
end
end ExN
end PySem
namespace L2
open PySem PySem.Spec PyProof.Rows
theorem relO_nam {v : V} {v' : Value} (r : RelV v v') (f : Str) : RelO (List.lookup f [(("name" : Str), v)]) (if f = "name" then some v' else none) := by
  by_cases hw : f = "name"
  · subst hw
    rw [if_pos rfl]
    have q : List.lookup ("name" : Str) [(("name" : Str), v)] = some v := by simp [List.lookup]
    rw [q]
    exact r
  · rw [if_neg hw]
    have qw : (f == ("name" : Str)) = false := by simpa using hw
    have q2 : List.lookup f [(("name" : Str), v)] = none := by simp [List.lookup, qw]
    rw [q2]
    trivial
section
variable {X : Cx} {C fI : Addr} {cn qn : Str}
/-- Nam(e) -/
def tMkNam (C : Addr) (ta : TA) : St → Hp → XK → Prop := fun σ H Q => ta σ H fun vs H1 => ∃ v, vs = [v] ∧ ∀ d, H1 d = none → Q (.ref C) (some d) (upd H1 d (.xd [(("name" : Str), v)]))
theorem pmk_nam {a : Expr} {ta : TA} {p pos : Pos} {k : Nat} (T : PySem.ExN.NamTxt X.K X.mg cn qn C fI) (hr : Room k X.A) (ha : PA X [a] ta) (hdb : (cn == ("__debug__" : Str)) = false := by decide) (hg : Gl X cn := by rfl)
    (he : starEach (a :: []) X.env = (false, eval a X.env) :: starEach [] X.env := by rfl) (hpl : (backTo pos (starEach [] X.env)).any (·.1) = false := by rfl) :
    PMk X (.Call (.Name cn p) [a] [] pos) (tMkNam C ta) := by
  intro pins s σ H Q I h
  refine wpAny_Call_Name_kw (ld_glob I hg T.gC ?_ hdb)
  refine PySem.W.callWith_K (h₀ := X.base) I.ok.mod.kin T.kC (thn (ha.run pos pins s σ H _ I h) fun us s1 hh => ?_) he hpl
  obtain ⟨vs, H1, I1, r1, v, ev, q1⟩ := hh
  subst ev
  refine ⟨I1.kIn, ?_⟩
  cases r1 with
  | cons rv rn =>
    rename_i v' us'
    cases rn
    show wpAny _ _ (call (.ref C) [v']) _ _ _
    have hlim := I1.nolimit
    obtain ⟨hp, g, dr, tk, os⟩ := s1
    refine wpAny_call (PySem.ExN.nam_made T I1.kIn hlim (by have := hr.dp; omega) fun h' tk' e d M => ?_)
    show MkP X pins σ Q (.ref e) ⟨h', g, dr, tk', os⟩
    obtain ⟨oe, fv, hoe, hc, hd, hdat, h1⟩ := M.obj
    have hns := M.ns
    obtain ⟨G', g1, g2⟩ := restrict h' fun b => decide (b ≠ e)
    have gk : ∀ b, b ≠ e → G'.get? b = h'.get? b := fun b hb => g1 b (decide_eq_true hb)
    have ge : G'.get? e = none := g2 e (by simp)
    have old : ∀ b o, hp.get? b = some o → G'.get? b = some o := fun b o q => (gk b (Nat.ne_of_lt (Nat.lt_of_lt_of_le (Heap.lt_size q) M.new))).trans (M.keep b o q)
    have ob : ObjOk X.prog X.w (upd H1 d (.xd [(("name" : Str), v)])) G' d (.xd [(("name" : Str), v)]) :=
      ⟨_, hns.at (fun o q => (gk d M.dne).trans q), fun f => relO_nam rv f⟩
    have J : Inv X pins σ (upd H1 d (.xd [(("name" : Str), v)])) ⟨G', g, dr, tk', os⟩ := I1.laid (t' := tk') old M.dbig ob
    refine ⟨e, oe, fv, ⟨G', g, dr, tk', os⟩, _, .ref C, some d, rfl, J, fun b o q => ?_, ge, hoe, ⟨hc, hd⟩, hdat, h1, ?_, rfl, I1.bare, raises_own T.exC T.tyC, q1 d (I1.hok.fresh M.dbig)⟩
    · by_cases hb : b = e
      · have q' : G'.get? b = some o := q
        rw [hb, ge] at q'; cases q'
      · exact (gk b hb).symm.trans q
    · rw [upd_ne (Ne.symm M.dne)]
      exact I1.hok.fresh M.new
/-- raise Nam(e) -/
def tRaiseNam (C : Addr) (W : WX) (ta : TA) : TS := fun _ σ H => tMkNam C ta σ H fun cls d H' => W cls d σ H'
theorem ps_raiseNam {a : Expr} {ta : TA} {W : WX} {p pos pos2 : Pos} {k : Nat} (hc : X.calm = true) (T : PySem.ExN.NamTxt X.K X.mg cn qn C fI) (hr : Room k X.A) (tk : Takes X W) (ha : PA X [a] ta) (hdb : (cn == ("__debug__" : Str)) = false := by decide) (hg : Gl X cn := by rfl)
    (he : starEach (a :: []) X.env = (false, eval a X.env) :: starEach [] X.env := by rfl) (hpl : (backTo pos (starEach [] X.env)).any (·.1) = false := by rfl) :
    PS X (.Raise (some (.Call (.Name cn p) [a] [] pos)) none pos2) (tRaiseNam C W ta) := ps_raise hc tk (pmk_nam T hr ha hdb hg he hpl)
/-- low.by, low the exception that the suite holds (at a; its class cls, its dict d) -/
def tByNam (C : Addr) (a : Addr) (cls : Value) (d : Option Addr) (te : TE) : TE := fun σ H Q => te σ H fun x H1 => x = .ref a ∧ cls = .ref C ∧ ∃ (dd : Addr) (v : V), d = some dd ∧ H1 dd = some (.xd [(("name" : Str), v)]) ∧ Q v H1
theorem pe_byNam {a : Addr} {oe : Obj} {cls : Value} {d : Option Addr} {pn : List (Addr × Obj)} {e : Expr} {te : TE} {pos : Pos} (T : PySem.ExN.NamTxt X.K X.mg cn qn C fI) (hz : Zc cls d oe) (hf : ∃ vs, oe.data = .fields vs) (he : PE (X.suite a ((a, oe) :: pn)) e te)
    (hb : attributeBase e "name" X.env (eval e X.env) = eval e X.env := by rfl) :
    PE (X.suite a ((a, oe) :: pn)) (.Attribute e "name" pos) (tByNam C a cls d te) := by
  refine ⟨fun pins s σ H Q I h => ?_⟩
  refine attr_of hb (thn (he.run pins s σ H _ I h) fun u s1 hh => ?_)
  obtain ⟨x, H1, I1, rx, ex, ec, dd, v, ed, ea, q⟩ := hh
  subst ex
  obtain rfl : u = Value.ref a := rx
  subst ec
  subst ed
  obtain ⟨ha, _⟩ := I1.pin (a, oe) (List.mem_append_left _ List.mem_cons_self)
  obtain ⟨vs, hd⟩ := hf
  have hx : ObjOk X.prog X.w H1 s1.heap dd (.xd [(("name" : Str), v)]) := I1.hok dd _ ea
  obtain ⟨mA, hns, hr⟩ := hx
  obtain ⟨od, ho, hl⟩ := lookIn_ns hns
  have l : List.lookup ("name" : Str) [(("name" : Str), v)] = some v := by simp [List.lookup]
  obtain ⟨u, hu, ru⟩ := RelO.some_of (v := v) (o := mA "name") (by rw [← l]; exact hr "name")
  have J : PySem.W.InstAt s1.heap a oe C (some od) := ⟨ha, hz.1, by unfold PySem.W.notCls; rw [hd] <;> rfl, by rw [hz.2]; exact ho⟩
  exact HandSPX.exc_get I1.kIn J T.ga T.gg T.exC (PySem.W.findObj_own T.hdC T.noN rfl (by rw [hl, hu])) (handed_of ru) ⟨v, H1, I1.tok _, ru, q⟩
end
end L2
set_option Elab.async false
set_option linter.all false
set_option maxRecDepth 100000
set_option maxHeartbeats 4000000
/-! == and != of lists and tuples that hold things with an == of their own: the answer is told -/
namespace FR
open PySem PySem.SeqAt
open AutoSeq1 (wpAny_loadPart')
open MeetsSeq MeetsSeq2 MeetsSeq3 SeqRoads2
section
variable {prog : Program} {w : World} {A : Around} {R : Result → Shared → Prop}
/-- at each turn the two lists are read anew: N items each; the i-th two are asked and answer e i -/
def ListB (prog : Program) (w : World) (A : Around) (E : Value → Shared → Prop) (l b : Addr) (N : Nat) (e : Nat → Bool) (I : Nat → Shared → Prop) : Prop :=
  ∀ i s, I i s → ∃ (items items2 : Array Value) (n n2 : Nat), s.heap.get? l = some { cls := .type "list", data := .seq items n } ∧ s.heap.get? b = some { cls := .type "list", data := .seq items2 n2 } ∧ items.size = N ∧ items2.size = N ∧
    ∀ (h1 : i < items.size) (h2 : i < items2.size), wpAny (model prog w) A.in1 (eqBool items[i] items2[i]) (fun r s' => r = e i ∧ I (i + 1) s') E s
theorem eq_loopB {e : Nat → Bool} {r : Bool} (l b : Addr) (N : Nat) (I : Nat → Shared → Prop) (hl : ListB prog w A (fun e s' => R (.error e) s') l b N e I) (hr : r = true ↔ ∀ j, j < N → e j = true)
    (fin : ∀ i s, I i s → R (.ok (.ret (.bool r))) s) (k : Nat) :
    ∀ i : Nat, N - i = k → i ≤ N → (∀ j, j < i → e j = true) → ∀ s, I i s →
      wpAny (model prog w) A.in1 (Builtin.«list.__eq__.loop» ⟨[.ref l, .ref b, rawInt i, rawInt 2], []⟩) (GQ.FinOf prog w A R) (fun e s' => R (.error e) s') s := by
  induction k with
  | zero =>
    intro i hk hi pre s h
    obtain ⟨items, items2, n, n2, hl1, hb1, hs1, hs2, _⟩ := hl _ _ h
    have hi' : i = N := by omega
    have er : r = true := hr.mpr fun j hj => pre j (by omega)
    have hR : R (.ok (.ret (.bool true))) s := er ▸ fin i s h
    obtain ⟨hp, g, d, tk, os⟩ := s
    wp_walk using wpAny_loadPart' hl1, wpAny_loadPart' hb1
    have hi1 : items[((i : Nat) : Int).toNat]? = none := by simp; omega
    have hi2 : items2[((i : Nat) : Int).toNat]? = none := by simp; omega
    rw [hi1, hi2]
    wp_walk using wpAny_loadPart' hl1, wpAny_loadPart' hb1
    show R (.ok (.ret (.bool (items.size == items2.size)))) _
    rw [hs1, hs2]
    simpa using hR
  | succ k ih =>
    intro i hk hi pre s h
    obtain ⟨items, items2, n, n2, hl1, hb1, hs1, hs2, turn⟩ := hl _ _ h
    have hlt : i < items.size := by omega
    have hlt2 : i < items2.size := by omega
    have ht := turn hlt hlt2
    obtain ⟨hp, g, d, tk, os⟩ := s
    wp_walk using wpAny_loadPart' hl1, wpAny_loadPart' hb1
    have hi1 : items[((i : Nat) : Int).toNat]? = some items[i] := by simp [hlt]
    have hi2 : items2[((i : Nat) : Int).toNat]? = some items2[i] := by simp [hlt2]
    have hc : ((i : Int) + 1) = ((i + 1 : Nat) : Int) := by omega
    rw [hi1, hi2]
    refine wpAny_bind (wpAny_mono ht (fun r' s2 h2 => ?_) fun _ _ x => x)
    obtain ⟨hr', h2⟩ := h2
    subst hr'
    obtain ⟨it3, it4, n3, n4, hl3, hb3, hs3, hs4, _⟩ := hl _ _ h2
    have fin2 := fin _ _ h2
    cases hy : e i with
    | true =>
      have hrec := ih (i + 1) (by omega) (by omega) (fun j hj => by rcases Nat.lt_succ_iff_lt_or_eq.mp hj with q | q; · exact pre j q
                                                                    · exact q ▸ hy) s2 h2
      obtain ⟨hp2, g2, d2, tk2, os2⟩ := s2
      wp_walk
      rw [hc]
      exact ⟨plainId_quiet plain_eq_loop _, codeAny_builtin entry_eq_loop (by
        rw [Around.under_plainId plain_eq_loop _]
        exact hrec)⟩
    | false =>
      have er : r = false := by
        cases r with
        | false => rfl
        | true => exact absurd (hr.mp rfl i (by omega)) (by rw [hy]; exact Bool.false_ne_true)
      rw [er] at fin2
      have hi3 : it3[((i : Nat) : Int).toNat]? = some (it3[i]'(by omega)) := by simp [show i < it3.size by omega]
      have hi4 : it4[((i : Nat) : Int).toNat]? = some (it4[i]'(by omega)) := by simp [show i < it4.size by omega]
      obtain ⟨hp2, g2, d2, tk2, os2⟩ := s2
      wp_walk using wpAny_loadPart' hl3, wpAny_loadPart' hb3
      rw [hi3, hi4]
      wp_walk
      exact fin2
theorem list_eqB {e : Nat → Bool} {r : Bool} (l b : Addr) (N : Nat) (I : Nat → Shared → Prop) (hl : ListB prog w A (fun e s' => R (.error e) s') l b N e I) (hr : r = true ↔ ∀ j, j < N → e j = true)
    (fin : ∀ i s, I i s → R (.ok (.ret (.bool r))) s) {s : Shared} (h : I 0 s) :
    wpAny (model prog w) A.in1 (Builtin.«list.__eq__» ⟨[.ref l, .ref b], []⟩) (GQ.FinOf prog w A R) (fun e s' => R (.error e) s') s := by
  obtain ⟨items, items2, n, n2, hl1, hb1, hs1, hs2, _⟩ := hl _ _ h
  have hrec := eq_loopB (A := A) (R := R) l b N I hl hr fin _ 0 rfl (Nat.zero_le _) (fun j hj => absurd hj (Nat.not_lt_zero _)) s h
  obtain ⟨hp, g, d, tk, os⟩ := s
  have f3 := AutoSeq1.sub_list_list
  have hne : ¬ (items.size != items2.size) = true := by simp [hs1, hs2]
  wp_walk using wpAny_loadPart' hl1, wpAny_loadPart' hb1
  exact ⟨plainId_quiet plain_eq_loop _, codeAny_builtin entry_eq_loop (by
    rw [Around.under_plainId plain_eq_loop _]
    exact hrec)⟩
theorem ne_loopB {e : Nat → Bool} {r : Bool} (l b : Addr) (N : Nat) (I : Nat → Shared → Prop) (hl : ListB prog w A (fun e s' => R (.error e) s') l b N e I) (hr : r = true ↔ ∀ j, j < N → e j = true)
    (fin : ∀ i s, I i s → R (.ok (.ret (.bool (!r)))) s) (k : Nat) :
    ∀ i : Nat, N - i = k → i ≤ N → (∀ j, j < i → e j = true) → ∀ s, I i s →
      wpAny (model prog w) A.in1 (Builtin.«list.__eq__.loop» ⟨[.ref l, .ref b, rawInt i, rawInt 3], []⟩) (GQ.FinOf prog w A R) (fun e s' => R (.error e) s') s := by
  induction k with
  | zero =>
    intro i hk hi pre s h
    obtain ⟨items, items2, n, n2, hl1, hb1, hs1, hs2, _⟩ := hl _ _ h
    have hi' : i = N := by omega
    have er : r = true := hr.mpr fun j hj => pre j (by omega)
    have hR : R (.ok (.ret (.bool (!true)))) s := er ▸ fin i s h
    obtain ⟨hp, g, d, tk, os⟩ := s
    wp_walk using wpAny_loadPart' hl1, wpAny_loadPart' hb1
    have hi1 : items[((i : Nat) : Int).toNat]? = none := by simp; omega
    have hi2 : items2[((i : Nat) : Int).toNat]? = none := by simp; omega
    rw [hi1, hi2]
    wp_walk using wpAny_loadPart' hl1, wpAny_loadPart' hb1
    show R (.ok (.ret (.bool (items.size != items2.size)))) _
    rw [hs1, hs2]
    simpa using hR
  | succ k ih =>
    intro i hk hi pre s h
    obtain ⟨items, items2, n, n2, hl1, hb1, hs1, hs2, turn⟩ := hl _ _ h
    have hlt : i < items.size := by omega
    have hlt2 : i < items2.size := by omega
    have ht := turn hlt hlt2
    obtain ⟨hp, g, d, tk, os⟩ := s
    wp_walk using wpAny_loadPart' hl1, wpAny_loadPart' hb1
    have hi1 : items[((i : Nat) : Int).toNat]? = some items[i] := by simp [hlt]
    have hi2 : items2[((i : Nat) : Int).toNat]? = some items2[i] := by simp [hlt2]
    have hc : ((i : Int) + 1) = ((i + 1 : Nat) : Int) := by omega
    rw [hi1, hi2]
    refine wpAny_bind (wpAny_mono ht (fun r' s2 h2 => ?_) fun _ _ x => x)
    obtain ⟨hr', h2⟩ := h2
    subst hr'
    obtain ⟨it3, it4, n3, n4, hl3, hb3, hs3, hs4, _⟩ := hl _ _ h2
    have fin2 := fin _ _ h2
    cases hy : e i with
    | true =>
      have hrec := ih (i + 1) (by omega) (by omega) (fun j hj => by rcases Nat.lt_succ_iff_lt_or_eq.mp hj with q | q; · exact pre j q
                                                                    · exact q ▸ hy) s2 h2
      obtain ⟨hp2, g2, d2, tk2, os2⟩ := s2
      wp_walk
      rw [hc]
      exact ⟨plainId_quiet plain_eq_loop _, codeAny_builtin entry_eq_loop (by
        rw [Around.under_plainId plain_eq_loop _]
        exact hrec)⟩
    | false =>
      have er : r = false := by
        cases r with
        | false => rfl
        | true => exact absurd (hr.mp rfl i (by omega)) (by rw [hy]; exact Bool.false_ne_true)
      rw [er] at fin2
      have hi3 : it3[((i : Nat) : Int).toNat]? = some (it3[i]'(by omega)) := by simp [show i < it3.size by omega]
      have hi4 : it4[((i : Nat) : Int).toNat]? = some (it4[i]'(by omega)) := by simp [show i < it4.size by omega]
      obtain ⟨hp2, g2, d2, tk2, os2⟩ := s2
      wp_walk using wpAny_loadPart' hl3, wpAny_loadPart' hb3
      rw [hi3, hi4]
      wp_walk
      exact fin2
theorem list_neB {e : Nat → Bool} {r : Bool} (l b : Addr) (N : Nat) (I : Nat → Shared → Prop) (hl : ListB prog w A (fun e s' => R (.error e) s') l b N e I) (hr : r = true ↔ ∀ j, j < N → e j = true)
    (fin : ∀ i s, I i s → R (.ok (.ret (.bool (!r)))) s) {s : Shared} (h : I 0 s) :
    wpAny (model prog w) A.in1 (Builtin.«list.__ne__» ⟨[.ref l, .ref b], []⟩) (GQ.FinOf prog w A R) (fun e s' => R (.error e) s') s := by
  obtain ⟨items, items2, n, n2, hl1, hb1, hs1, hs2, _⟩ := hl _ _ h
  have hrec := ne_loopB (A := A) (R := R) l b N I hl hr fin _ 0 rfl (Nat.zero_le _) (fun j hj => absurd hj (Nat.not_lt_zero _)) s h
  obtain ⟨hp, g, d, tk, os⟩ := s
  have f3 := AutoSeq1.sub_list_list
  have hne : ¬ (items.size != items2.size) = true := by simp [hs1, hs2]
  wp_walk using wpAny_loadPart' hl1, wpAny_loadPart' hb1
  exact ⟨plainId_quiet plain_eq_loop _, codeAny_builtin entry_eq_loop (by
    rw [Around.under_plainId plain_eq_loop _]
    exact hrec)⟩
theorem tuple_eqB {e : Nat → Bool} {r : Bool} (l b : Addr) (items items2 : Array Value) (n n2 : Nat) (dd dd2 : Option Addr) (sl sl2 : Array (Option Value)) (hsz : items.size = items2.size) (I : Nat → Shared → Prop)
    (turn : ∀ i (h1 : i < items.size) (h2 : i < items2.size) s, I i s → wpAny (model prog w) A.in1 (eqBool items[i] items2[i]) (fun r s' => r = e i ∧ I (i + 1) s') (fun e s' => R (.error e) s') s) (hr : r = true ↔ ∀ j, j < items.size → e j = true)
    (fin : ∀ i s, I i s → R (.ok (.ret (.bool r))) s) {s : Shared} (hl1 : s.heap.get? l = some { cls := .type "tuple", dict := dd, data := .seq items n, slots := sl }) (hb1 : s.heap.get? b = some { cls := .type "tuple", dict := dd2, data := .seq items2 n2, slots := sl2 }) (h : I 0 s) :
    wpAny (model prog w) A.in1 (Builtin.«tuple.__eq__» ⟨[.ref l, .ref b], []⟩) (GQ.FinOf prog w A R) (fun e s' => R (.error e) s') s := by
  have f2 := AutoSeq1.sub_tuple_tuple
  have hZ : (items.toList.zip items2.toList).length = items.size := by simp [hsz]
  have h0 := h
  obtain ⟨hp, g, d, tk, os⟩ := s
  wp_walk using wpAny_loadPart' hl1, wpAny_loadPart' hb1, wpAny_forIn_list _ (fun rest b s' => b.1 = none ∧ ∃ i, rest = (items.toList.zip items2.toList).drop i ∧ i ≤ items.size ∧ (∀ j, j < i → e j = true) ∧ I i s') _
  case turn =>
    rintro ⟨y, x⟩ rest b s' ⟨hb', i, hz, hi, pre, hI⟩
    have hlt : i < (items.toList.zip items2.toList).length := by
      rcases Nat.lt_or_ge i (items.toList.zip items2.toList).length with h' | h'
      · exact h'
      · rw [List.drop_of_length_le h'] at hz; cases hz
    have h1 : i < items.size := hZ ▸ hlt
    have h2 : i < items2.size := hsz ▸ h1
    rw [List.drop_eq_getElem_cons hlt] at hz
    injection hz with hyx hrest
    have hy : y = items[i] := by have := congrArg Prod.fst hyx; simpa using this
    have hx : x = items2[i] := by have := congrArg Prod.snd hyx; simpa using this
    subst hy hx
    refine wpAny_bind (wpAny_mono (turn i h1 h2 s' hI) (fun r' s2 q2 => ?_) fun _ _ x => x)
    obtain ⟨hr', q2⟩ := q2
    subst hr'
    have fin2 := fin _ _ q2
    cases hy : e i with
    | true =>
      wp_walk
      exact ⟨rfl, i + 1, hrest, h1, fun j hj => by
        rcases Nat.lt_succ_iff_lt_or_eq.mp hj with q | q
        · exact pre j q
        · exact q ▸ hy, q2⟩
    | false =>
      have er : r = false := by
        cases r with
        | false => rfl
        | true => exact absurd (hr.mp rfl i h1) (by rw [hy]; exact Bool.false_ne_true)
      rw [er] at fin2
      wp_walk
      exact fin2
  case fin =>
    rintro ⟨b1, b2⟩ s' ⟨hb', i, hz, hi, pre, hI⟩
    simp only at hb'
    subst hb'
    have hge : items.size ≤ i := by
      rcases Nat.lt_or_ge i (items.toList.zip items2.toList).length with h' | h'
      · rw [List.drop_eq_getElem_cons h'] at hz; cases hz
      · exact hZ ▸ h'
    have er : r = true := hr.mpr fun j hj => pre j (by omega)
    have hR : R (.ok (.ret (.bool true))) s' := er ▸ fin _ s' hI
    wp_walk
    simpa [Builtin.Tuple.tupleCompareSizes, hsz] using hR
  case h =>
    exact ⟨rfl, 0, rfl, Nat.zero_le _, fun j hj => absurd hj (Nat.not_lt_zero _), h0⟩
end
section
variable {prog : Program} {w : World} {A : Around} {E : Value → Shared → Prop} {s : Shared}
theorem rc_listB {l b : Addr} {N : Nat} {e : Nat → Bool} {r : Bool} {Q : Value → Shared → Prop} (hu : A.units < cLine) (I : Nat → Shared → Prop) (hl : ListB prog w A E l b N e I) (hr : r = true ↔ ∀ j, j < N → e j = true)
    (fin : ∀ i s, I i s → Q (.bool r) s) (h : I 0 s) : wpAny (model prog w) A (richCompare .Eq (.ref l) (.ref b)) Q E s := by
  obtain ⟨items, items2, n, n2, hl1, hb1, _, _, _⟩ := hl _ _ h
  refine wpAny_richCompare_same_room (op := .Eq) ⟨_, hl1, rfl⟩ ⟨_, hb1, rfl⟩ F.slot_list_eq (GQ.call_here F.slot_list_eq ⟨_, hl1, rfl⟩ F.entry_list_eq (F.args_list_eq_2 _ _) ?_) hu
  exact list_eqB (R := wants (fun v s' => v ≠ .notImplemented ∧ Q v s') E) l b N I hl hr (fun i s' q => ⟨(fun x => nomatch x), fin i s' q⟩) h
theorem rc_listNB {l b : Addr} {N : Nat} {e : Nat → Bool} {r : Bool} {Q : Value → Shared → Prop} (hu : A.units < cLine) (I : Nat → Shared → Prop) (hl : ListB prog w A E l b N e I) (hr : r = true ↔ ∀ j, j < N → e j = true)
    (fin : ∀ i s, I i s → Q (.bool (!r)) s) (h : I 0 s) : wpAny (model prog w) A (richCompare .NotEq (.ref l) (.ref b)) Q E s := by
  obtain ⟨items, items2, n, n2, hl1, hb1, _, _, _⟩ := hl _ _ h
  refine wpAny_richCompare_same_room (op := .NotEq) ⟨_, hl1, rfl⟩ ⟨_, hb1, rfl⟩ F.slot_list_ne (GQ.call_here F.slot_list_ne ⟨_, hl1, rfl⟩ F.entry_list_ne (F.args_list_ne_2 _ _) ?_) hu
  exact list_neB (R := wants (fun v s' => v ≠ .notImplemented ∧ Q v s') E) l b N I hl hr (fun i s' q => ⟨(fun x => nomatch x), fin i s' q⟩) h
theorem rc_tupB {l b : Addr} {items items2 : Array Value} {e : Nat → Bool} {r : Bool} {Q : Value → Shared → Prop} (hsz : items.size = items2.size) (hu : A.units < cLine) (I : Nat → Shared → Prop)
    (hl : s.heap.IsTuple l items) (hb : s.heap.IsTuple b items2)
    (turn : ∀ i (h1 : i < items.size) (h2 : i < items2.size) s, I i s → wpAny (model prog w) A.in1 (eqBool items[i] items2[i]) (fun r s' => r = e i ∧ I (i + 1) s') E s) (hr : r = true ↔ ∀ j, j < items.size → e j = true)
    (fin : ∀ i s, I i s → Q (.bool r) s) (h : I 0 s) : wpAny (model prog w) A (richCompare .Eq (.ref l) (.ref b)) Q E s := by
  obtain ⟨⟨cls, dd, data, sl⟩, ho, hc, n, hd⟩ := id hl
  obtain ⟨⟨cls2, dd2, data2, sl2⟩, ho2, hc2, n2, hd2⟩ := id hb
  simp only at hc hd hc2 hd2
  subst hc hd hc2 hd2
  refine wpAny_richCompare_same_room (op := .Eq) ⟨_, ho, rfl⟩ ⟨_, ho2, rfl⟩ F.slot_tuple_eq (GQ.call_here F.slot_tuple_eq ⟨_, ho, rfl⟩ F.entry_tuple_eq (F.args_tuple_eq_2 _ _) ?_) hu
  exact tuple_eqB (R := wants (fun v s' => v ≠ .notImplemented ∧ Q v s') E) l b items items2 n n2 dd dd2 sl sl2 hsz I turn hr (fun i s' q => ⟨(fun x => nomatch x), fin i s' q⟩) ho ho2 h
theorem rc_list_size {l b : Addr} {items items2 : Array Value} {Q : Value → Shared → Prop} (hl : s.heap.IsList l items) (hb : s.heap.IsList b items2) (hsz : items.size ≠ items2.size) (hu : A.units < cLine)
    (h : Q (.bool false) s) : wpAny (model prog w) A (richCompare .Eq (.ref l) (.ref b)) Q E s :=
  RcAt.lists_lengths hl hb (by simpa using hsz) hu prog w E Q h
end
theorem non_eq_ref (b : Addr) : PySem.Gives (Builtin.«NoneType.__eq__» ⟨[.none, .ref b], []⟩) (.val (Value.notImplemented)) :=
  .of_wp fun M A E s Q h => by obtain ⟨hp, g, d, tk, os⟩ := s; wp_walk; exact ⟨_, rfl, h⟩
open PySem.Spec PyProof.Rows L2 TL
/-! ### by the abstract heap -/
abbrev Eqb := V → V → Bool → Hp → Prop
def MonB (D : Eqb) : Prop := ∀ x y r H H', Ext H H' → D x y r H → D x y r H'
def EqB (X : Cx) (n : Nat) (D : Eqb) : Prop :=
  ∀ (A : Around) (pins : List (Addr × Obj)) (s : Shared) (σ : L2.St) (H : Hp) (x y : V) (r : Bool) (u v : Value), Sub X n A → Inv X pins σ H s → RelV x u → RelV y v → D x y r H →
    wpAny (model X.prog X.w) A (eqBool u v) (fun r' s' => r' = r ∧ ∃ H', Inv X pins σ H' s' ∧ Ext H H') X.xe s
def RcB (X : Cx) (n : Nat) (D : Eqb) : Prop :=
  ∀ (A : Around) (pins : List (Addr × Obj)) (s : Shared) (σ : L2.St) (H : Hp) (x y : V) (r : Bool) (u v : Value), Sub X n A → Inv X pins σ H s → RelV x u → RelV y v → D x y r H →
    wpAny (model X.prog X.w) A (richCompare .Eq u v) (fun r' s' => r' = .bool r ∧ ∃ H', Inv X pins σ H' s' ∧ Ext H H') X.xe s
section
variable {X : Cx} {n m : Nat} {D D' : Eqb}
theorem EqB.mono (h : EqB X n D) (hn : n ≤ m) : EqB X m D := fun A pins s σ H x y r u v sb => h A pins s σ H x y r u v (sb.mono hn)
theorem EqB.or (h : EqB X n D) (h' : EqB X n D') : EqB X n (fun x y r H => D x y r H ∨ D' x y r H) := fun A pins s σ H x y r u v sb I rx ry d => by
  rcases d with d | d
  · exact h A pins s σ H x y r u v sb I rx ry d
  · exact h' A pins s σ H x y r u v sb I rx ry d
theorem MonB.or (h : MonB D) (h' : MonB D') : MonB (fun x y r H => D x y r H ∨ D' x y r H) := fun x y r H H' e d => d.elim (fun d => .inl (h x y r H H' e d)) fun d => .inr (h' x y r H H' e d)
theorem EqB.imp (h : EqB X n D) (hd : ∀ x y r H, D' x y r H → D x y r H) : EqB X n D' := fun A pins s σ H x y r u v sb I rx ry d => h A pins s σ H x y r u v sb I rx ry (hd x y r H d)
/-- flat values, and the same thing -/
def BFlat : Eqb := fun x y r _ => (flatV x = true ∧ flatV y = true ∧ eqV x y = r) ∨ ∃ a, x = .ref a ∧ y = .ref a ∧ true = r
theorem monB_flat : MonB BFlat := fun _ _ _ _ _ _ d => d
theorem eqB_flat : EqB X 0 BFlat := by
  intro A pins s σ H x y r u v sb I rx ry d
  obtain ⟨fx, fy, e⟩ | ⟨a, rfl, rfl, rfl⟩ := d
  · have q := eqAt_V (A := A) (s := s) rx ry fx fy
    rw [e] at q
    exact q X.prog X.w X.xe _ ⟨rfl, H, I, Ext.rfl'⟩
  · cases rx
    cases ry
    exact SeqAt.EqAt.same (A := A) (s := s) (.ref a) X.prog X.w X.xe _ ⟨rfl, H, I, Ext.rfl'⟩
/-- item by item; es: what each two answer -/
structure PrB (D : Eqb) (xs ys : List V) (r : Bool) (H : Hp) (es : List Bool) : Prop where
  l1 : xs.length = es.length
  l2 : ys.length = es.length
  d : ∀ (i : Nat) x y b, xs[i]? = some x → ys[i]? = some y → es[i]? = some b → D x y b H
  e : es.all id = r
def PrsB (D : Eqb) (xs ys : List V) (r : Bool) (H : Hp) : Prop := ∃ es, PrB D xs ys r H es
theorem PrsB.mon (hD : MonB D) {xs ys : List V} {r : Bool} {H H' : Hp} (e : Ext H H') (p : PrsB D xs ys r H) : PrsB D xs ys r H' := let ⟨es, p⟩ := p; ⟨es, p.l1, p.l2, fun i x y b h1 h2 h3 => hD x y b H H' e (p.d i x y b h1 h2 h3), p.e⟩
theorem PrsB.nil {H : Hp} : PrsB D [] [] true H := ⟨[], rfl, rfl, fun i x y b h _ => by simp at h, rfl⟩
theorem PrsB.cons {x y : V} {xs ys : List V} {b r : Bool} {H : Hp} (h : D x y b H) (p : PrsB D xs ys r H) : PrsB D (x :: xs) (y :: ys) (b && r) H := by
  obtain ⟨es, p⟩ := p
  refine ⟨b :: es, by rw [List.length_cons, List.length_cons, p.l1], by rw [List.length_cons, List.length_cons, p.l2], fun i x' y' b' h1 h2 h3 => ?_, by rw [List.all_cons, p.e]; rfl⟩
  cases i with
  | zero =>
    simp at h1 h2 h3
    subst h1; subst h2; subst h3
    exact h
  | succ i =>
    simp at h1 h2 h3
    exact p.d i x' y' b' h1 h2 h3
theorem getD_at {es : List Bool} {j : Nat} {d : Bool} (hj : j < es.length) : es.getD j d = es[j] := by
  rw [List.getD_eq_getElem?_getD, List.getElem?_eq_getElem hj] <;> rfl
theorem all_iff {es : List Bool} {r : Bool} (h : es.all id = r) : r = true ↔ ∀ j, j < es.length → es.getD j true = true := by
  subst h
  rw [List.all_eq_true]
  constructor
  · intro h j hj
    rw [getD_at hj]
    exact h _ (List.getElem_mem hj)
  · intro h x hx
    obtain ⟨j, hj, e⟩ := List.getElem_of_mem hx
    have := h j hj
    rw [getD_at hj, e] at this
    exact this
theorem turnB (hD : MonB D) (h : EqB X n D) {A : Around} (sb : Sub X (n + 1) A) {pins : List (Addr × Obj)} {σ : L2.St} {H : Hp} {xs ys : List V} {rr : Bool} {es : List Bool} {its its2 : List Value} (p : PrB D xs ys rr H es) (r : Vals xs its) (r2 : Vals ys its2)
    (i : Nat) (h1 : i < its.toArray.size) (h2 : i < its2.toArray.size) (s' : Shared) (l : LoopI X pins σ H s') :
    wpAny (model X.prog X.w) A.in1 (eqBool its.toArray[i] its2.toArray[i]) (fun r s2 => r = es.getD i true ∧ LoopI X pins σ H s2) X.xe s' := by
  obtain ⟨H1, I1, e1⟩ := l
  have g1 : its[i]? = some its.toArray[i] := by
    have h1' : i < its.length := by simpa using h1
    rw [List.getElem?_eq_getElem h1'] <;> simp
  have g2 : its2[i]? = some its2.toArray[i] := by
    have h2' : i < its2.length := by simpa using h2
    rw [List.getElem?_eq_getElem h2'] <;> simp
  have k1 : i < xs.length := by rw [r.length]; simpa using h1
  have k2 : i < ys.length := by rw [r2.length]; simpa using h2
  have k3 : i < es.length := p.l1 ▸ k1
  obtain ⟨u, hu, ru⟩ := r.get (List.getElem?_eq_getElem k1)
  obtain ⟨v, hv, rv⟩ := r2.get (List.getElem?_eq_getElem k2)
  rw [g1] at hu
  rw [g2] at hv
  rw [Option.some.inj hu, Option.some.inj hv]
  refine wpAny_mono (h A.in1 pins s' σ H1 _ _ _ u v sb.in1 I1 ru rv (hD _ _ _ _ _ e1 (p.d i _ _ _ (List.getElem?_eq_getElem k1) (List.getElem?_eq_getElem k2) (List.getElem?_eq_getElem k3)))) (fun r s2 q => ?_) fun _ _ x => x
  obtain ⟨hr, H2, I2, e2⟩ := q
  exact ⟨by rw [hr, getD_at k3], H2, I2, e1.trans e2⟩
/-- two lists, two tuples -/
def BList (D : Eqb) : Eqb := fun x y r H => ∃ a b xs ys, x = .ref a ∧ y = .ref b ∧ H a = some (.lst xs) ∧ H b = some (.lst ys) ∧ (PrsB D xs ys r H ∨ xs.length ≠ ys.length ∧ false = r)
def BTup (K : PySem.W.Frag) (D : Eqb) : Eqb := fun x y r H => ∃ a b xs ys, x = .ref a ∧ y = .ref b ∧ SqT K H a xs ∧ SqT K H b ys ∧ PrsB D xs ys r H
theorem monB_list (hD : MonB D) : MonB (BList D) := fun x y r H H' e d => by
  obtain ⟨a, b, xs, ys, hx, hy, h1, h2, p⟩ := d
  exact ⟨a, b, xs, ys, hx, hy, e _ _ h1, e _ _ h2, p.imp (PrsB.mon hD e) id⟩
theorem monB_tup {K : PySem.W.Frag} (hD : MonB D) : MonB (BTup K D) := fun x y r H H' e d => by
  obtain ⟨a, b, xs, ys, hx, hy, h1, h2, p⟩ := d
  exact ⟨a, b, xs, ys, hx, hy, h1.ext e, h2.ext e, p.mon hD e⟩
theorem listB_of (hD : MonB D) (h : EqB X n D) {A : Around} (sb : Sub X (n + 1) A) {pins : List (Addr × Obj)} {σ : L2.St} {H : Hp} {a b : Addr} {xs ys : List V} {rr : Bool} {es : List Bool} (ha : H a = some (.lst xs)) (hb : H b = some (.lst ys)) (p : PrB D xs ys rr H es) :
    ListB X.prog X.w A X.xe a b xs.length (fun i => es.getD i true) (fun _ s' => LoopI X pins σ H s') := fun i s' q => by
  obtain ⟨H1, I1, e1⟩ := id q
  obtain ⟨z, its, k, r, e⟩ := I1.hok a _ (e1 _ _ ha)
  obtain ⟨z2, its2, k2, r2, e2⟩ := I1.hok b _ (e1 _ _ hb)
  refine ⟨its.toArray, its2.toArray, k, k2, e, e2, by rw [List.size_toArray, ← r.length], by rw [List.size_toArray, ← r2.length, p.l2, p.l1], fun h1 h2 => ?_⟩
  exact turnB hD h sb p r r2 i h1 h2 s' q
theorem rcB_list (hD : MonB D) (h : EqB X n D) : RcB X (n + 1) (BList D) := by
  intro A pins s σ H x y r u v sb I rx ry d
  obtain ⟨a, b, xs, ys, rfl, rfl, ha, hb, ⟨es, p⟩ | ⟨hl, rfl⟩⟩ := d
  · cases rx
    cases ry
    exact rc_listB sb.room.units0 (fun _ s' => LoopI X pins σ H s') (listB_of hD h sb ha hb p) (p.l1 ▸ all_iff p.e) (fun i s' q => ⟨rfl, q⟩) ⟨H, I, Ext.rfl'⟩
  · cases rx
    cases ry
    obtain ⟨z, its, k, r, e⟩ := I.hok a _ ha
    obtain ⟨z2, its2, k2, r2, e2⟩ := I.hok b _ hb
    refine rc_list_size ⟨_, e, rfl, _, rfl⟩ ⟨_, e2, rfl, _, rfl⟩ (by rw [List.size_toArray, List.size_toArray, ← r.length, ← r2.length]; exact hl) sb.room.units0 ⟨rfl, H, I, Ext.rfl'⟩
theorem rcB_tup (hD : MonB D) (h : EqB X n D) : RcB X (n + 1) (BTup X.K D) := by
  intro A pins s σ H x y r u v sb I rx ry d
  obtain ⟨a, b, xs, ys, rfl, rfl, ha, hb, es, p⟩ := d
  cases rx
  cases ry
  obtain ⟨its, r, e, z⟩ := I.tuple ha
  obtain ⟨its2, r2, e2, z2⟩ := I.tuple hb
  have hsz : its.toArray.size = its2.toArray.size := by rw [List.size_toArray, List.size_toArray, ← r.length, ← r2.length, p.l1, p.l2]
  refine rc_tupB (e := fun i => es.getD i true) hsz sb.room.units0 (fun _ s' => LoopI X pins σ H s') e e2 (fun i h1 h2 s' q => turnB hD h sb p r r2 i h1 h2 s' q) ?_ (fun i s' q => ⟨rfl, q⟩) ⟨H, I, Ext.rfl'⟩
  rw [List.size_toArray, ← r.length, p.l1]
  exact all_iff p.e
/-! ### an own == -/
/-- what the own == promises: y is anything -/
def spEqB (R : Addr → V → Bool → Hp → Prop) : Sp := fun vs H Q _ => ∃ a y r, vs = [.ref a, y] ∧ R a y r H ∧ ∀ H', Ext H H' → Q (.bl r) H'
def BOwn (K : PySem.W.Frag) (C : Addr) (R : Addr → V → Bool → Hp → Prop) : Eqb := fun x y r H => ∃ a dx fs t, x = .ref a ∧ H a = some (.ins C dx fs) ∧ (∀ H', Ext H H' → TyX K H' y t) ∧ PySem.W.notFirst K C t = true ∧ R a y r H
theorem monB_own {K : PySem.W.Frag} {C : Addr} {R : Addr → V → Bool → Hp → Prop} (hR : ∀ a y r H H', Ext H H' → R a y r H → R a y r H') : MonB (BOwn K C R) := fun x y r H H' e d => by
  obtain ⟨a, dx, fs, t, hx, h1, ty, nf, q⟩ := d
  exact ⟨a, dx, fs, t, hx, e _ _ h1, fun H2 e2 => ty H2 (e.trans e2), nf, hR _ _ _ _ _ e q⟩
theorem run_eqB {A : Around} {CX : CXT} {g a : Addr} {y : V} {r : Bool} {v : Value} {R : Addr → V → Bool → Hp → Prop} {E : XK} (F : FnR X.prog X.w X.K X.mg X.base CX n g (spEqB R)) (hx : Passes CX X E) (sb : Sub X n A) {pins : List (Addr × Obj)} {s : Shared} {σ : L2.St} {H : Hp} (I : Inv X pins σ H s) (ry : RelV y v) (hr : R a y r H) :
    wpAny (model X.prog X.w) A (call (.ref g) [.ref a, v]) (PySem.W.CmpBack fun r' s' => r' = .bool r ∧ ∃ H', Inv X pins σ H' s' ∧ Ext H H') X.xe s := by
  have e0 : Env0 X.prog X.w X.K X.mg X.base A X.stack s H := by
    have e := I.env0
    exact ⟨by rw [sb.fr]; exact e.frames, e.mod, e.bs, e.bsz, e.funs, e.frf, e.hok, e.bare⟩
  refine wpAny_mono (wpAny_call (SlX.run_at (us := [.ref a, v]) (ws := [.ref a, y]) (Q := fun z H' => z = .bl r ∧ Ext H H') F sb.room e0 hx I (.cons rfl (.cons ry .nil)) ⟨a, y, r, rfl, hr, fun H' e => ⟨rfl, e⟩⟩)) (fun w s' z => ?_) fun _ _ x => x
  obtain ⟨z', H', I', rz, ez, ex⟩ := z
  subst ez
  exact SlX.cmpback rz (P := fun r' s' => r' = .bool r ∧ ∃ H', Inv X pins σ H' s' ∧ Ext H H') ⟨rz, H', I', ex⟩
theorem rcB_own {CX : CXT} {C g : Addr} {R : Addr → V → Bool → Hp → Prop} {E : XK} (hs : PySem.W.findIn X.K (.ref C) "__eq__" = some (some (.ref g))) (hf : PySem.W.isFn X.K (.ref g) = true) (F : FnR X.prog X.w X.K X.mg X.base CX n g (spEqB R)) (hx : Passes CX X E) : RcB X n (BOwn X.K C R) := by
  intro A pins s σ H x y r u v sb I rx ry d
  obtain ⟨a, dx, fs, t, rfl, ha, ty, nf, hr⟩ := d
  cases rx
  obtain ⟨od, J⟩ := ins_inst I ha
  obtain ⟨Pk, kx, hP, _⟩ := L2.kit_of I ry (ty H Ext.rfl')
  obtain ⟨m, hF⟩ := I.fr
  exact PySem.W.cmp_K (op := .Eq) (tb := t) sb.room.units0 hF I.ok.mod.kin J (kx.ty _ _ I.kIn hP) nf hs hf (run_eqB F hx sb I ry hr)
/-- None on the left, one of the own class on the right -/
def BNon (C : Addr) (R : Addr → V → Bool → Hp → Prop) : Eqb := fun x y r H => ∃ b dy gs, x = .non ∧ y = .ref b ∧ H b = some (.ins C dy gs) ∧ R b .non r H
theorem monB_non {C : Addr} {R : Addr → V → Bool → Hp → Prop} (hR : ∀ a y r H H', Ext H H' → R a y r H → R a y r H') : MonB (BNon C R) := fun x y r H H' e d => by
  obtain ⟨b, dy, gs, hx, hy, h1, q⟩ := d
  exact ⟨b, dy, gs, hx, hy, e _ _ h1, hR _ _ _ _ _ e q⟩
theorem rcB_non {CX : CXT} {C g : Addr} {R : Addr → V → Bool → Hp → Prop} {E : XK} (hs : PySem.W.findIn X.K (.ref C) "__eq__" = some (some (.ref g))) (hf : PySem.W.isFn X.K (.ref g) = true) (hsub : PySem.W.subIn X.K (.ref C) (.type "NoneType") = some false)
    (F : FnR X.prog X.w X.K X.mg X.base CX n g (spEqB R)) (hx : Passes CX X E) : RcB X n (BNon C R) := by
  intro A pins s σ H x y r u v sb I rx ry d
  obtain ⟨b, dy, gs, rfl, rfl, hb, hr⟩ := d
  cases (show u = Value.none from rx)
  cases (show v = Value.ref b from ry)
  obtain ⟨od, J⟩ := ins_inst I hb
  have back := run_eqB (y := .non) (v := .none) (A := A) F hx sb I rfl hr
  have one : wpAny (model X.prog X.w) A (tryCompare (.ref b) (cmpInfo .Eq).2.2 .none) (fun r' s' => ∃ w, r' = some w ∧ (w = .bool r ∧ ∃ H', Inv X pins σ H' s' ∧ Ext H H')) X.xe s := by
    unfold tryCompare
    refine wpAny_bind (PySem.W.ifBound_K I.kIn J hs hf (wpAny_mono back (fun v s' hv => ?_) fun _ _ e => e))
    cases v <;> first | exact hv.elim | exact wpAny_pure ⟨_, rfl, hv⟩
  unfold richCompare
  rw [(show s.TypeIs .none "NoneType" from rfl).oneThing_none]
  refine wpAny_holding (wpAny_bind (wpAny_cRoomFor sb.room.units0 ?_))
  refine wpAny_bind (wpAny_typeOf (show s.TypeIs .none "NoneType" from rfl) (wpAny_bind (J.type.here ?_)))
  rw [if_pos (show (Value.type "NoneType" != Value.ref C) = true from rfl)]
  refine wpAny_bind ((PySem.W.looks_subIn I.kIn hsub).here ?_)
  simp only [Bool.false_eq_true, if_false, Bool.not_false, if_true]
  refine wpAny_bind (m := tryCompare .none _ (.ref b)) (wpAny_tryCompare_declines (show s.TypeIs .none "NoneType" from rfl) PySem.F.slot_NoneType_eq (call_gives PySem.F.slot_NoneType_eq rfl PySem.F.entry_NoneType_eq (PySem.F.args_NoneType_eq_2 _ _) (non_eq_ref b) ⟨rfl, ?_⟩))
  refine wpAny_bind (m := tryCompare (.ref b) _ .none) (wpAny_mono one (fun r' s' z => ?_) fun _ _ e => e)
  obtain ⟨w, rfl, q⟩ := z
  exact wpAny_pure q
/-- from a rich comparison to == inside a list or tuple -/
theorem RcB.eqB (h : RcB X n D) (hr : ∀ x y r H, D x y r H → (∃ a, x = .ref a ∧ y = .ref a ∧ true = r) ∨ (∃ a b, x = .ref a ∧ y = .ref b ∧ a ≠ b) ∨ (∃ a, x = .ref a ∧ y = .non) ∨ ∃ a, x = .non ∧ y = .ref a) : EqB X n D := by
  intro A pins s σ H x y r u v sb I rx ry d
  have go : u ≠ v → (∀ a b, ¬ (u = .float a b)) → wpAny (model X.prog X.w) A (eqBool u v) (fun r' s' => r' = r ∧ ∃ H', Inv X pins σ H' s' ∧ Ext H H') X.xe s := fun hne hfl => by
    have z := h A pins s σ H x y r u v sb I rx ry d
    unfold eqBool
    refine wpAny_holding ?_
    refine wpAny_ite_split (fun hab => absurd (eq_of_beq hab) hne) (fun _ => ?_)
    have fin : wpAny (model X.prog X.w) A (do truthOfDropped (← richCompare .Eq u v)) (fun r' s' => r' = r ∧ ∃ H', Inv X pins σ H' s' ∧ Ext H H') X.xe s := by
      refine wpAny_bind (wpAny_mono z (fun v s' hv => ?_) fun _ _ x => x)
      obtain ⟨rfl, q⟩ := hv
      exact wpAny_truthy_bool ⟨rfl, q⟩
    cases u with
    | float a b => exact (hfl a b rfl).elim
    | _ => exact fin
  rcases hr _ _ _ _ d with ⟨a, rfl, rfl, rfl⟩ | ⟨a, b, rfl, rfl, hab⟩ | ⟨a, rfl, rfl⟩ | ⟨a, rfl, rfl⟩
  · cases rx
    cases ry
    exact SeqAt.EqAt.same (A := A) (s := s) (.ref a) X.prog X.w X.xe _ ⟨rfl, H, I, Ext.rfl'⟩
  · cases rx
    cases ry
    exact go (fun e => hab (by injection e)) fun _ _ => nofun
  · cases rx
    cases (show v = Value.none from ry)
    exact go nofun fun _ _ => nofun
  · cases (show u = Value.none from rx)
    cases ry
    exact go nofun fun _ _ => nofun
/-! ### as expressions -/
def rEqB (D : Eqb) : R2 := fun x y H Q => ∃ r, D x y r H ∧ ∀ H', Keep [] H H' → Q (.bl r) H'
def rNeB (D : Eqb) : R2 := fun x y H Q => ∃ r, D x y r H ∧ ∀ H', Keep [] H H' → Q (.bl (!r)) H'
theorem op_eqB (h : RcB X n D) (hr : Room n X.A) : OpR X (compareOp .Eq) (rEqB D) := by
  intro pins s σ H x y v u Q I rx ry hq
  obtain ⟨r, d, q⟩ := hq
  show wpAny (model X.prog X.w) X.A (richCompare .Eq v u) (EP X pins σ Q) X.xe s
  refine wpAny_mono (h X.A pins s σ H x y r v u ⟨hr, rfl⟩ I rx ry d) (fun r' s' z => ?_) fun _ _ x => x
  obtain ⟨hr', H', I', e⟩ := z
  subst hr'
  exact ⟨.bl r, H', I', rfl, q H' (Keep.of_same e)⟩
theorem op_neB (hD : MonB D) (h : EqB X n D) (hr : Room (n + 1) X.A) : OpR X (compareOp .NotEq) (rNeB (BList D)) := by
  intro pins s σ H x y v u Q I rx ry hq
  obtain ⟨r, ⟨a, b, xs, ys, rfl, rfl, ha, hb, ⟨es, p⟩ | ⟨hl, rfl⟩⟩, q⟩ := hq
  · cases rx
    cases ry
    show wpAny (model X.prog X.w) X.A (richCompare .NotEq _ _) (EP X pins σ Q) X.xe s
    refine rc_listNB (r := r) hr.units0 (fun _ s' => LoopI X pins σ H s') (listB_of hD h ⟨hr, rfl⟩ ha hb p) (p.l1 ▸ all_iff p.e) (fun i s' z => ?_) ⟨H, I, Ext.rfl'⟩
    obtain ⟨H', I', e⟩ := z
    exact ⟨.bl (!r), H', I', rfl, q H' (Keep.of_same e)⟩
  · cases rx
    cases ry
    obtain ⟨z, its, k, r, e⟩ := I.hok a _ ha
    obtain ⟨z2, its2, k2, r2, e2⟩ := I.hok b _ hb
    show wpAny (model X.prog X.w) X.A (richCompare .NotEq _ _) (EP X pins σ Q) X.xe s
    exact RcNeAt.lists_lengths ⟨_, e, rfl, _, rfl⟩ ⟨_, e2, rfl, _, rfl⟩ (by simpa [← r.length, ← r2.length] using hl) hr.units0 X.prog X.w X.xe _ ⟨.bl true, H, I, rfl, q H Keep.refl⟩
end
end FR
set_option Elab.async false
set_option linter.all false
set_option maxRecDepth 100000
set_option maxHeartbeats 4000000
/-! C.m(e, *y), m a classmethod of the class C -/
namespace FR
open PySem PySem.Spec PyProof.Rows L2 TL ClX
def tCMethS (K : PySem.W.Frag) (C : Addr) (sp : Sp) (E : XK) (ta t1 t2 : TE) : TE := fun σ H Q => ta σ H fun x H1 => x = .ref C ∧ t1 σ H1 fun y1 H2 => t2 σ H2 fun y2 H3 => ∃ b vs, y2 = .ref b ∧ (SqT K H3 b vs ∨ SqL K H3 b vs) ∧ sp (.ref C :: y1 :: vs) H3 Q E
theorem pe_cmethS {X : Cx} {CX : CXT} {k : Nat} {C p g : Addr} {mc : Value} {sp : Sp} {E : XK} {o e1 e2 : Expr} {m : Str} {pos apos sp_ : Pos} {ta t1 t2 : TE} (he : PE X o ta) (r : CRead X.K C mc) (c : CMet X.K C mc m p g) (F : FnR X.prog X.w X.K X.mg X.base CX k g sp) (hr : Room k X.A) (hx : Passes CX X E)
    (h1 : PE X e1 t1) (h2 : PE X e2 t2) (hbase : attributeBase o m X.env (eval o X.env) = eval o X.env := by rfl)
    (hst : starEach [e1, .Starred e2 sp_] X.env = [(false, eval e1 X.env), (true, eval e2 X.env)] := by rfl) : PE X (.Call (.Attribute o m apos) [e1, .Starred e2 sp_] [] pos) (tCMethS X.K C sp E ta t1 t2) := by
  refine ⟨fun pins s σ H Q I h => ?_⟩
  refine starcall2_of hbase hst (thn (he.run pins s σ H _ I h) fun u s1 ⟨x, H1, I1, rx, ex, q⟩ => ?_)
  subst ex
  obtain rfl : u = Value.ref C := rx
  refine getcmet_ok I1 r c fun s2 I2 => ?_
  refine PySem.W.ks_call (P := PySem.W.MethP X.K s1.heap.objs.size g (.ref C)) rfl (PySem.W.keeps_M c.fi) (PySem.Calls.evalArgs_plain (PySem.Calls.spliced_cons (thn (h1.run _ s2 σ _ _ I2 q) fun v1 s3 ⟨y1, H2, I3, ry1, q2⟩ =>
    PySem.W.ks_spliced (thn (h2.run _ s3 σ H2 _ I3 q2) fun v2 s4 ⟨y2, H3, I4, ry2, t, vs, ey, ht, hsp⟩ => ?_))))
  subst ey
  obtain rfl : v2 = Value.ref t := ry2
  refine StX.star_any I4 ht fun us s5 I5 rv => PySem.Calls.spliced_nil ?_
  show PySem.W.MethP X.K s1.heap.objs.size g (.ref C) s5.heap ∧ wpAny (model X.prog X.w) X.A (call (.ref s1.heap.objs.size) (v1 :: (us ++ [])) []) (EP X pins σ Q) X.xe s5
  rw [List.append_nil]
  exact ⟨⟨pin_at I5, I5.kIn⟩, run_cm F hr hx I5 (.cons ry1 rv) hsp⟩
end FR
set_option Elab.async false
set_option linter.all false
set_option maxRecDepth 100000
set_option maxHeartbeats 8000000
local macro_rules | `(tactic| walk_at "sq") => `(tactic| first
  | (refine' FR.Ow.sq (i := 0) ?w ?e; (case w => assumption); (case e => rfl))
  | (refine' FR.Ow.sq (i := 1) ?w ?e; (case w => assumption); (case e => rfl))
  | (refine' FR.Ow.sq (i := 2) ?w ?e; (case w => assumption); (case e => rfl))
  | (refine' FR.Ow.sq (i := 3) ?w ?e; (case w => assumption); (case e => rfl))
  | (refine' FR.Ow.sq (i := 4) ?w ?e; (case w => assumption); (case e => rfl))
  | (refine' FR.Ow.sq (i := 5) ?w ?e; (case w => assumption); (case e => rfl))
  | (refine' FR.Ow.sq (i := 6) ?w ?e; (case w => assumption); (case e => rfl))
  | (refine' FR.Ow.sq (i := 7) ?w ?e; (case w => assumption); (case e => rfl))
  | (refine' FR.Ow.sq (i := 8) ?w ?e; (case w => assumption); (case e => rfl))
  | (refine' FR.Ow.sq (i := 9) ?w ?e; (case w => assumption); (case e => rfl))
  | (refine' FR.Ow.sq (i := 10) ?w ?e; (case w => assumption); (case e => rfl))
  | (refine' FR.Ow.sq (i := 11) ?w ?e; (case w => assumption); (case e => rfl))
  | (refine' FR.Ow.sq (i := 12) ?w ?e; (case w => assumption); (case e => rfl))
  | (refine' FR.Ow.sq (i := 13) ?w ?e; (case w => assumption); (case e => rfl))
  | assumption)
local macro_rules | `(tactic| walk_at "hp") => `(tactic| first
  | (refine' FR.Ow.get (i := 0) ?w ?e; (case w => assumption); (case e => rfl))
  | (refine' FR.Ow.get (i := 1) ?w ?e; (case w => assumption); (case e => rfl))
  | (refine' FR.Ow.get (i := 2) ?w ?e; (case w => assumption); (case e => rfl))
  | (refine' FR.Ow.get (i := 3) ?w ?e; (case w => assumption); (case e => rfl))
  | (refine' FR.Ow.get (i := 4) ?w ?e; (case w => assumption); (case e => rfl))
  | (refine' FR.Ow.get (i := 5) ?w ?e; (case w => assumption); (case e => rfl))
  | (refine' FR.Ow.get (i := 6) ?w ?e; (case w => assumption); (case e => rfl))
  | (refine' FR.Ow.get (i := 7) ?w ?e; (case w => assumption); (case e => rfl))
  | (refine' FR.Ow.get (i := 8) ?w ?e; (case w => assumption); (case e => rfl))
  | (refine' FR.Ow.get (i := 9) ?w ?e; (case w => assumption); (case e => rfl))
  | (refine' FR.Ow.get (i := 10) ?w ?e; (case w => assumption); (case e => rfl))
  | (refine' FR.Ow.get (i := 11) ?w ?e; (case w => assumption); (case e => rfl))
  | (refine' FR.Ow.get (i := 12) ?w ?e; (case w => assumption); (case e => rfl))
  | (refine' FR.Ow.get (i := 13) ?w ?e; (case w => assumption); (case e => rfl))
  | assumption)
local macro_rules | `(tactic| walk_at "ar") => `(tactic| first | assumption | omega | decide)
local macro_rules | `(tactic| walk_at "cd") => `(tactic| first
  | assumption | (with_reducible rfl) | exact (rfl : List.length _ = _) | (dsimp only; walk_at "ar") | walk_at "ar"
  | (refine And.intro (a := (_ : Int) < _) ?_ ?_ <;> walk_at "ar")
  | (refine And.intro (a := (0 : Int) ≤ _) ?_ (And.intro ?_ ?_) <;> walk_at "ar")
  | exact FR.size_le (by omega) | exact FR.size_ok (by omega)
  | (refine Or.inl (And.intro ?_ ?_) <;> walk_at "ar")
  | (refine Or.inr (And.intro ?_ ?_) <;> walk_at "ar"))
local macro_rules | `(tactic| walk_at "ty") => `(tactic| first
  | exact L2.TyOf.int _
  | exact L2.TyOf.str _
  | exact L2.TyOf.bl _
  | exact L2.TyOf.non
  | (refine' L2.TyOf.lst ?e; (case e => walk_at "hp"))
  | (refine' L2.TyOf.tup ?e; (case e => walk_at "hp"))
  | (refine' L2.TyOf.dK ?e; (case e => walk_at "hp")))
local macro_rules | `(tactic| walk_at "kit") => `(tactic| first
  | exact FR.ki_int_str
  | exact FR.ki_int_int
  | exact FR.ki_int_bool
  | exact FR.ki_int_list
  | exact FR.ki_int_tuple
  | exact FR.ki_int_dict
  | exact FR.ki_str_str
  | exact FR.ki_str_int
  | exact FR.ki_str_bool
  | exact FR.ki_str_list
  | exact FR.ki_str_tuple
  | exact FR.ki_str_dict
  | exact FR.ki_bl_str
  | exact FR.ki_bl_int
  | exact FR.ki_bl_bool
  | exact FR.ki_bl_list
  | exact FR.ki_bl_tuple
  | exact FR.ki_bl_dict
  | exact FR.ki_non_str
  | exact FR.ki_non_int
  | exact FR.ki_non_bool
  | exact FR.ki_non_list
  | exact FR.ki_non_tuple
  | exact FR.ki_non_dict
  | exact FR.ki_lst_str
  | exact FR.ki_lst_int
  | exact FR.ki_lst_bool
  | exact FR.ki_lst_list
  | exact FR.ki_lst_tuple
  | exact FR.ki_lst_dict
  | exact FR.ki_tup_str
  | exact FR.ki_tup_int
  | exact FR.ki_tup_bool
  | exact FR.ki_tup_list
  | exact FR.ki_tup_tuple
  | exact FR.ki_tup_dict
  | exact FR.ki_dK_str
  | exact FR.ki_dK_int
  | exact FR.ki_dK_bool
  | exact FR.ki_dK_list
  | exact FR.ki_dK_tuple
  | exact FR.ki_dK_dict)
local macro_rules | `(tactic| walk_at "isi") => `(tactic| (refine' ⟨_, _, _, _, _, rfl, L2.ClsV.ty _, L2.TyX.base ?k1, L2.kit_ty ?k2, ?k3⟩; (case k1 => walk_at "ty"); (case k2 => walk_at "kit")))
local macro_rules | `(tactic| walk_at "w1") => `(tactic| first
  | (refine' FR.with1 0 ?k1 ?k2 (by assumption) (by assumption) ?k3; (case k1 => assumption); (case k2 => rfl); intro W)
  | (refine' FR.with1 1 ?k1 ?k2 (by assumption) (by assumption) ?k3; (case k1 => assumption); (case k2 => rfl); intro W)
  | (refine' FR.with1 2 ?k1 ?k2 (by assumption) (by assumption) ?k3; (case k1 => assumption); (case k2 => rfl); intro W)
  | (refine' FR.with1 3 ?k1 ?k2 (by assumption) (by assumption) ?k3; (case k1 => assumption); (case k2 => rfl); intro W)
  | (refine' FR.with1 4 ?k1 ?k2 (by assumption) (by assumption) ?k3; (case k1 => assumption); (case k2 => rfl); intro W)
  | (refine' FR.with1 5 ?k1 ?k2 (by assumption) (by assumption) ?k3; (case k1 => assumption); (case k2 => rfl); intro W)
  | (refine' FR.with1 6 ?k1 ?k2 (by assumption) (by assumption) ?k3; (case k1 => assumption); (case k2 => rfl); intro W)
  | (refine' FR.with1 7 ?k1 ?k2 (by assumption) (by assumption) ?k3; (case k1 => assumption); (case k2 => rfl); intro W)
  | (refine' FR.with1 8 ?k1 ?k2 (by assumption) (by assumption) ?k3; (case k1 => assumption); (case k2 => rfl); intro W)
  | (refine' FR.with1 9 ?k1 ?k2 (by assumption) (by assumption) ?k3; (case k1 => assumption); (case k2 => rfl); intro W)
  | (refine' FR.with1 10 ?k1 ?k2 (by assumption) (by assumption) ?k3; (case k1 => assumption); (case k2 => rfl); intro W)
  | (refine' FR.with1 11 ?k1 ?k2 (by assumption) (by assumption) ?k3; (case k1 => assumption); (case k2 => rfl); intro W)
  | (refine' FR.with1 12 ?k1 ?k2 (by assumption) (by assumption) ?k3; (case k1 => assumption); (case k2 => rfl); intro W)
  | (refine' FR.with1 13 ?k1 ?k2 (by assumption) (by assumption) ?k3; (case k1 => assumption); (case k2 => rfl); intro W))
local macro_rules | `(tactic| walk_at "obj") => `(tactic| first
  | (refine FR.NewO.mk ?_; intro p H np kp hp; refine' FR.withN ?k1 np kp hp ?k2; (case k1 => assumption); intro W)
  | (refine FR.NewS.mk ?_; intro p H np sp kp hp; refine' FR.withN ?k1 np kp hp ?k2; (case k1 => assumption); intro W)
  | (refine FR.MutO.mk ?_; intro H kp hp; walk_at "w1"))
local macro_rules | `(tactic| walk_at "sz") => `(tactic| exact FR.size_ok (by (try simp only [List.length_map, List.length_append, List.length_cons, List.length_nil]); omega))
local macro_rules | `(tactic| walk_at "rd1") => `(tactic| first
  | (refine ⟨_, rfl, ?_⟩)
  | (refine ⟨_, _, rfl, rfl, ?_⟩)
  | (refine ⟨_, _, rfl, ?_⟩)
  | (refine' ⟨_, _, _, _, rfl, rfl, ?k1, ?k2, ?k3⟩; (case k1 => walk_at "hp"); (case k2 => rfl); walk_at "obj")
  | (refine' ⟨_, _, _, _, rfl, rfl, ?k1, ?k2, ?k3⟩; (case k1 => walk_at "sq"); (case k2 => rfl))
  | walk_at "obj"
  | (refine' ⟨_, _, _, rfl, rfl, ?k1, ?k2, ?k3⟩; (case k1 => walk_at "hp"); (case k2 => walk_at "sz"); walk_at "obj")
  | (refine And.intro (show List.length _ ≤ PySem.sizeLine from Nat.le_of_ble_eq_true rfl) ?_; walk_at "obj")
  | (refine' ⟨_, _, rfl, Or.inl ?k1, ?k2⟩; (case k1 => walk_at "sq"))
  | (refine FR.ifT rfl ?_) | (refine FR.ifF rfl ?_)
  | (refine And.intro (show L2.scal _ _ = true from rfl) ?_)
  | (refine And.intro (show L2.tyV _ "str" (L2.V.str _) _ from rfl) ?_)
  | (refine' And.intro (show L2.tyV _ "list" (L2.V.ref _) _ from Or.inl ⟨rfl, _, ?k1⟩) ?k2; (case k1 => walk_at "sq"))
  | (refine And.intro (Exists.intro _ rfl) ?_)
  | (refine And.intro (show L2.wipe _ _ = L2.wipe _ _ from rfl) ?_)
  | (refine And.intro (by walk_at "cd") ?_)
  | walk_at "isi")
local macro_rules | `(tactic| walk_at "rd") => `(tactic| repeat walk_at "rd1")
local macro_rules | `(tactic| walk_at "take") => `(tactic| (refine' ⟨_, _, _, _, _, _, rfl, ?k1, ?k2, ?k3, ?k4, ?k5, ?k6⟩; (case k1 => walk_at "hp"); (case k2 => assumption); (case k3 => omega); (case k4 => first | decide | omega); (case k5 => first | decide | omega); intro d x y z H d0 d1 ok kp hb; walk_at "w1"))
local macro_rules | `(tactic| walk_at "kwb") => `(tactic| (intro kV doc pm an cdv ct us ws l1 l2; match us, ws, l1, l2 with | [_], [_], _, _ => rfl))
set_option Elab.async false
set_option linter.all false
set_option maxRecDepth 100000
namespace K51
open PySem PySem.Spec PyProof.Rows L2 FR
def top (i : Nat) : Stmt := PySem.Challenge.pw_filerights_k51_starts.main.body.getD i (.Pass ⟨0, 0, 0, 0⟩)
def inCls (s : Stmt) (j : Nat) : Stmt := match s with
  | .ClassDef _ _ _ b _ _ _ _ _ _ _ => b.getD j (.Pass ⟨0, 0, 0, 0⟩)
  | _ => .Pass ⟨0, 0, 0, 0⟩
abbrev s__wall : Stmt := top 0
abbrev N__wall : List Str := ["k"]
theorem sc__wall : FnScope N__wall ["k"] (defScope s__wall) := ⟨rfl, rfl, rfl, by decide +kernel, rfl, by decide +kernel, by decide +kernel⟩
abbrev s_is_integer : Stmt := top 13
abbrev N_is_integer : List Str := ["value", "low", "high"]
theorem sc_is_integer : FnScope N_is_integer ["value", "low", "high"] (defScope s_is_integer) := ⟨rfl, rfl, rfl, by decide +kernel, rfl, by decide +kernel, by decide +kernel⟩
abbrev s_is_name : Stmt := top 14
abbrev N_is_name : List Str := ["value"]
theorem sc_is_name : FnScope N_is_name ["value"] (defScope s_is_name) := ⟨rfl, rfl, rfl, by decide +kernel, rfl, by decide +kernel, by decide +kernel⟩
abbrev s_is_user_name : Stmt := top 15
abbrev N_is_user_name : List Str := ["value"]
theorem sc_is_user_name : FnScope N_is_user_name ["value"] (defScope s_is_user_name) := ⟨rfl, rfl, rfl, by decide +kernel, rfl, by decide +kernel, by decide +kernel⟩
abbrev s_as_rights : Stmt := top 22
abbrev N_as_rights : List Str := ["value"]
theorem sc_as_rights : FnScope N_as_rights ["value"] (defScope s_as_rights) := ⟨rfl, rfl, rfl, by decide +kernel, rfl, by decide +kernel, by decide +kernel⟩
abbrev s__is_letters : Stmt := top 23
abbrev N__is_letters : List Str := ["value"]
theorem sc__is_letters : FnScope N__is_letters ["value"] (defScope s__is_letters) := ⟨rfl, rfl, rfl, by decide +kernel, rfl, by decide +kernel, by decide +kernel⟩
abbrev s__digit_of : Stmt := top 24
abbrev N__digit_of : List Str := ["value"]
theorem sc__digit_of : FnScope N__digit_of ["value"] (defScope s__digit_of) := ⟨rfl, rfl, rfl, by decide +kernel, rfl, by decide +kernel, by decide +kernel⟩
abbrev s_is_digits : Stmt := top 31
abbrev N_is_digits : List Str := ["value", "digit"]
theorem sc_is_digits : FnScope N_is_digits ["value"] (defScope s_is_digits) := ⟨rfl, rfl, rfl, by decide +kernel, rfl, by decide +kernel, by decide +kernel⟩
abbrev s__three_rights : Stmt := top 32
abbrev N__three_rights : List Str := ["digits", "digit"]
theorem sc__three_rights : FnScope N__three_rights ["digits"] (defScope s__three_rights) := ⟨rfl, rfl, rfl, by decide +kernel, rfl, by decide +kernel, by decide +kernel⟩
abbrev s__named_rights : Stmt := top 33
abbrev N__named_rights : List Str := ["value", "named", "name"]
theorem sc__named_rights : FnScope N__named_rights ["value"] (defScope s__named_rights) := ⟨rfl, rfl, rfl, by decide +kernel, rfl, by decide +kernel, by decide +kernel⟩
abbrev s__keys_in_order : Stmt := top 34
abbrev N__keys_in_order : List Str := ["value", "strings", "key"]
theorem sc__keys_in_order : FnScope N__keys_in_order ["value"] (defScope s__keys_in_order) := ⟨rfl, rfl, rfl, by decide +kernel, rfl, by decide +kernel, by decide +kernel⟩
abbrev s__is_entry : Stmt := top 35
abbrev N__is_entry : List Str := ["kind", "name"]
theorem sc__is_entry : FnScope N__is_entry ["kind", "name"] (defScope s__is_entry) := ⟨rfl, rfl, rfl, by decide +kernel, rfl, by decide +kernel, by decide +kernel⟩
abbrev s__named_in : Stmt := top 36
abbrev N__named_in : List Str := ["entries", "kind", "word", "name"]
theorem sc__named_in : FnScope N__named_in ["entries", "kind"] (defScope s__named_in) := ⟨rfl, rfl, rfl, by decide +kernel, rfl, by decide +kernel, by decide +kernel⟩
abbrev s__assembled : Stmt := top 37
abbrev N__assembled : List Str := ["entries"]
theorem sc__assembled : FnScope N__assembled ["entries"] (defScope s__assembled) := ⟨rfl, rfl, rfl, by decide +kernel, rfl, by decide +kernel, by decide +kernel⟩
abbrev s_cell : Stmt := top 41
abbrev N_cell : List Str := ["_law_script", "_law_k"]
theorem sc_cell : FnScope N_cell ["_law_script", "_law_k"] (defScope s_cell) := ⟨rfl, rfl, rfl, by decide +kernel, rfl, by decide +kernel, by decide +kernel⟩
abbrev s_bag : Stmt := top 42
abbrev N_bag : List Str := ["_law_number"]
theorem sc_bag : FnScope N_bag ["_law_number"] (defScope s_bag) := ⟨rfl, rfl, rfl, by decide +kernel, rfl, by decide +kernel, by decide +kernel⟩
abbrev s_take : Stmt := top 43
abbrev N_take : List Str := ["_law_bag_here", "_law_count", "_law_digit", "_law_mixed"]
theorem sc_take : FnScope N_take ["_law_bag_here", "_law_count"] (defScope s_take) := ⟨rfl, rfl, rfl, by decide +kernel, rfl, by decide +kernel, by decide +kernel⟩
abbrev s_part : Stmt := top 44
abbrev N_part : List Str := ["_law_bag_here", "_law_at", "_law_k"]
theorem sc_part : FnScope N_part ["_law_bag_here", "_law_at"] (defScope s_part) := ⟨rfl, rfl, rfl, by decide +kernel, rfl, by decide +kernel, by decide +kernel⟩
abbrev s_odd : Stmt := top 45
abbrev N_odd : List Str := ["_law_bag_here", "_law_at", "_law_some"]
theorem sc_odd : FnScope N_odd ["_law_bag_here", "_law_at"] (defScope s_odd) := ⟨rfl, rfl, rfl, by decide +kernel, rfl, by decide +kernel, by decide +kernel⟩
abbrev s_opened : Stmt := top 46
abbrev N_opened : List Str := ["_law_parts", "_law_way"]
theorem sc_opened : FnScope N_opened ["_law_parts", "_law_way"] (defScope s_opened) := ⟨rfl, rfl, rfl, by decide +kernel, rfl, by decide +kernel, by decide +kernel⟩
abbrev s_tried : Stmt := top 47
abbrev N_tried : List Str := ["_law_parts", "e"]
theorem sc_tried : FnScope N_tried ["_law_parts"] (defScope s_tried) := ⟨rfl, rfl, rfl, by decide +kernel, rfl, by decide +kernel, by decide +kernel⟩
abbrev s_shown : Stmt := top 48
abbrev N_shown : List Str := ["_law_start"]
theorem sc_shown : FnScope N_shown ["_law_start"] (defScope s_shown) := ⟨rfl, rfl, rfl, by decide +kernel, rfl, by decide +kernel, by decide +kernel⟩
abbrev s_law : Stmt := top 49
abbrev N_law : List Str := ["_law_script", "_law_k", "_law_bag_here", "_law_parts", "_law_others", "_law_start", "_law_other", "_law_places", "_law_at", "_law_expected"]
theorem sc_law : FnScope N_law ["_law_script"] (defScope s_law) := ⟨rfl, rfl, rfl, by decide +kernel, rfl, by decide +kernel, by decide +kernel⟩
abbrev s_Rights___init__ : Stmt := inCls (top 21) 0
abbrev N_Rights___init__ : List Str := ["self", "letters"]
theorem sc_Rights___init__ : FnScope N_Rights___init__ ["self", "letters"] (defScope s_Rights___init__) := ⟨rfl, rfl, rfl, by decide +kernel, rfl, by decide +kernel, by decide +kernel⟩
abbrev s_Rights_of : Stmt := inCls (top 21) 1
abbrev N_Rights_of : List Str := ["cls", "parts", "whole", "part"]
theorem sc_Rights_of : FnScope N_Rights_of ["cls", "parts"] (defScope s_Rights_of) := ⟨rfl, rfl, rfl, by decide +kernel, rfl, by decide +kernel, by decide +kernel⟩
abbrev s_Rights_from_digit : Stmt := inCls (top 21) 2
abbrev N_Rights_from_digit : List Str := ["cls", "digit"]
theorem sc_Rights_from_digit : FnScope N_Rights_from_digit ["cls", "digit"] (defScope s_Rights_from_digit) := ⟨rfl, rfl, rfl, by decide +kernel, rfl, by decide +kernel, by decide +kernel⟩
abbrev s_Rights_digit : Stmt := inCls (top 21) 3
abbrev N_Rights_digit : List Str := ["self"]
theorem sc_Rights_digit : FnScope N_Rights_digit ["self"] (defScope s_Rights_digit) := ⟨rfl, rfl, rfl, by decide +kernel, rfl, by decide +kernel, by decide +kernel⟩
abbrev s_Rights_listed : Stmt := inCls (top 21) 4
abbrev N_Rights_listed : List Str := ["self"]
theorem sc_Rights_listed : FnScope N_Rights_listed ["self"] (defScope s_Rights_listed) := ⟨rfl, rfl, rfl, by decide +kernel, rfl, by decide +kernel, by decide +kernel⟩
abbrev s_Rights_covers : Stmt := inCls (top 21) 5
abbrev N_Rights_covers : List Str := ["self", "other"]
theorem sc_Rights_covers : FnScope N_Rights_covers ["self", "other"] (defScope s_Rights_covers) := ⟨rfl, rfl, rfl, by decide +kernel, rfl, by decide +kernel, by decide +kernel⟩
abbrev s_Rights___or__ : Stmt := inCls (top 21) 6
abbrev N_Rights___or__ : List Str := ["self", "other"]
theorem sc_Rights___or__ : FnScope N_Rights___or__ ["self", "other"] (defScope s_Rights___or__) := ⟨rfl, rfl, rfl, by decide +kernel, rfl, by decide +kernel, by decide +kernel⟩
abbrev s_Rights___and__ : Stmt := inCls (top 21) 7
abbrev N_Rights___and__ : List Str := ["self", "other"]
theorem sc_Rights___and__ : FnScope N_Rights___and__ ["self", "other"] (defScope s_Rights___and__) := ⟨rfl, rfl, rfl, by decide +kernel, rfl, by decide +kernel, by decide +kernel⟩
abbrev s_Rights___sub__ : Stmt := inCls (top 21) 8
abbrev N_Rights___sub__ : List Str := ["self", "other"]
theorem sc_Rights___sub__ : FnScope N_Rights___sub__ ["self", "other"] (defScope s_Rights___sub__) := ⟨rfl, rfl, rfl, by decide +kernel, rfl, by decide +kernel, by decide +kernel⟩
abbrev s_Rights___xor__ : Stmt := inCls (top 21) 9
abbrev N_Rights___xor__ : List Str := ["self", "other"]
theorem sc_Rights___xor__ : FnScope N_Rights___xor__ ["self", "other"] (defScope s_Rights___xor__) := ⟨rfl, rfl, rfl, by decide +kernel, rfl, by decide +kernel, by decide +kernel⟩
abbrev s_Rights___invert__ : Stmt := inCls (top 21) 10
abbrev N_Rights___invert__ : List Str := ["self"]
theorem sc_Rights___invert__ : FnScope N_Rights___invert__ ["self"] (defScope s_Rights___invert__) := ⟨rfl, rfl, rfl, by decide +kernel, rfl, by decide +kernel, by decide +kernel⟩
abbrev s_Rights___eq__ : Stmt := inCls (top 21) 11
abbrev N_Rights___eq__ : List Str := ["self", "other"]
theorem sc_Rights___eq__ : FnScope N_Rights___eq__ ["self", "other"] (defScope s_Rights___eq__) := ⟨rfl, rfl, rfl, by decide +kernel, rfl, by decide +kernel, by decide +kernel⟩
abbrev s_Rights___contains__ : Stmt := inCls (top 21) 12
abbrev N_Rights___contains__ : List Str := ["self", "value"]
theorem sc_Rights___contains__ : FnScope N_Rights___contains__ ["self", "value"] (defScope s_Rights___contains__) := ⟨rfl, rfl, rfl, by decide +kernel, rfl, by decide +kernel, by decide +kernel⟩
abbrev s_Rights___len__ : Stmt := inCls (top 21) 13
abbrev N_Rights___len__ : List Str := ["self"]
theorem sc_Rights___len__ : FnScope N_Rights___len__ ["self"] (defScope s_Rights___len__) := ⟨rfl, rfl, rfl, by decide +kernel, rfl, by decide +kernel, by decide +kernel⟩
abbrev s_Rights___bool__ : Stmt := inCls (top 21) 14
abbrev N_Rights___bool__ : List Str := ["self"]
theorem sc_Rights___bool__ : FnScope N_Rights___bool__ ["self"] (defScope s_Rights___bool__) := ⟨rfl, rfl, rfl, by decide +kernel, rfl, by decide +kernel, by decide +kernel⟩
abbrev s_Rights___str__ : Stmt := inCls (top 21) 15
abbrev N_Rights___str__ : List Str := ["self", "letter"]
theorem sc_Rights___str__ : FnScope N_Rights___str__ ["self"] (defScope s_Rights___str__) := ⟨rfl, rfl, rfl, by decide +kernel, rfl, by decide +kernel, by decide +kernel⟩
abbrev s_Rights___repr__ : Stmt := inCls (top 21) 16
abbrev N_Rights___repr__ : List Str := ["self"]
theorem sc_Rights___repr__ : FnScope N_Rights___repr__ ["self"] (defScope s_Rights___repr__) := ⟨rfl, rfl, rfl, by decide +kernel, rfl, by decide +kernel, by decide +kernel⟩
abbrev s_AccessList___init__ : Stmt := inCls (top 30) 0
abbrev N_AccessList___init__ : List Str := ["self", "owner", "group", "other", "users", "groups", "mask"]
theorem sc_AccessList___init__ : FnScope N_AccessList___init__ ["self", "owner", "group", "other", "users", "groups", "mask"] (defScope s_AccessList___init__) := ⟨rfl, rfl, rfl, by decide +kernel, rfl, by decide +kernel, by decide +kernel⟩
abbrev s_AccessList__first_mask : Stmt := inCls (top 30) 1
abbrev N_AccessList__first_mask : List Str := ["self", "named"]
theorem sc_AccessList__first_mask : FnScope N_AccessList__first_mask ["self"] (defScope s_AccessList__first_mask) := ⟨rfl, rfl, rfl, by decide +kernel, rfl, by decide +kernel, by decide +kernel⟩
abbrev s_AccessList_plain : Stmt := inCls (top 30) 2
abbrev N_AccessList_plain : List Str := ["cls", "digits", "owner", "group", "other"]
theorem sc_AccessList_plain : FnScope N_AccessList_plain ["cls", "digits"] (defScope s_AccessList_plain) := ⟨rfl, rfl, rfl, by decide +kernel, rfl, by decide +kernel, by decide +kernel⟩
abbrev s_AccessList_everything : Stmt := inCls (top 30) 3
abbrev N_AccessList_everything : List Str := []
theorem sc_AccessList_everything : FnScope N_AccessList_everything [] (defScope s_AccessList_everything) := ⟨rfl, rfl, rfl, by decide +kernel, rfl, by decide +kernel, by decide +kernel⟩
abbrev s_AccessList_from_text : Stmt := inCls (top 30) 4
abbrev N_AccessList_from_text : List Str := ["cls", "text"]
theorem sc_AccessList_from_text : FnScope N_AccessList_from_text ["cls", "text"] (defScope s_AccessList_from_text) := ⟨rfl, rfl, rfl, by decide +kernel, rfl, by decide +kernel, by decide +kernel⟩
abbrev s_AccessList_owner : Stmt := inCls (top 30) 5
abbrev N_AccessList_owner : List Str := ["self"]
theorem sc_AccessList_owner : FnScope N_AccessList_owner ["self"] (defScope s_AccessList_owner) := ⟨rfl, rfl, rfl, by decide +kernel, rfl, by decide +kernel, by decide +kernel⟩
abbrev s_AccessList_group : Stmt := inCls (top 30) 6
abbrev N_AccessList_group : List Str := ["self"]
theorem sc_AccessList_group : FnScope N_AccessList_group ["self"] (defScope s_AccessList_group) := ⟨rfl, rfl, rfl, by decide +kernel, rfl, by decide +kernel, by decide +kernel⟩
abbrev s_AccessList_other : Stmt := inCls (top 30) 7
abbrev N_AccessList_other : List Str := ["self"]
theorem sc_AccessList_other : FnScope N_AccessList_other ["self"] (defScope s_AccessList_other) := ⟨rfl, rfl, rfl, by decide +kernel, rfl, by decide +kernel, by decide +kernel⟩
abbrev s_AccessList_mask : Stmt := inCls (top 30) 8
abbrev N_AccessList_mask : List Str := ["self"]
theorem sc_AccessList_mask : FnScope N_AccessList_mask ["self"] (defScope s_AccessList_mask) := ⟨rfl, rfl, rfl, by decide +kernel, rfl, by decide +kernel, by decide +kernel⟩
abbrev s_AccessList_digits : Stmt := inCls (top 30) 9
abbrev N_AccessList_digits : List Str := ["self"]
theorem sc_AccessList_digits : FnScope N_AccessList_digits ["self"] (defScope s_AccessList_digits) := ⟨rfl, rfl, rfl, by decide +kernel, rfl, by decide +kernel, by decide +kernel⟩
abbrev s_AccessList__middle : Stmt := inCls (top 30) 10
abbrev N_AccessList__middle : List Str := ["self"]
theorem sc_AccessList__middle : FnScope N_AccessList__middle ["self"] (defScope s_AccessList__middle) := ⟨rfl, rfl, rfl, by decide +kernel, rfl, by decide +kernel, by decide +kernel⟩
abbrev s_AccessList_users : Stmt := inCls (top 30) 11
abbrev N_AccessList_users : List Str := ["self"]
theorem sc_AccessList_users : FnScope N_AccessList_users ["self"] (defScope s_AccessList_users) := ⟨rfl, rfl, rfl, by decide +kernel, rfl, by decide +kernel, by decide +kernel⟩
abbrev s_AccessList_groups : Stmt := inCls (top 30) 12
abbrev N_AccessList_groups : List Str := ["self"]
theorem sc_AccessList_groups : FnScope N_AccessList_groups ["self"] (defScope s_AccessList_groups) := ⟨rfl, rfl, rfl, by decide +kernel, rfl, by decide +kernel, by decide +kernel⟩
abbrev s_AccessList_entries : Stmt := inCls (top 30) 13
abbrev N_AccessList_entries : List Str := ["self", "masks", "name"]
theorem sc_AccessList_entries : FnScope N_AccessList_entries ["self"] (defScope s_AccessList_entries) := ⟨rfl, rfl, rfl, by decide +kernel, rfl, by decide +kernel, by decide +kernel⟩
abbrev s_AccessList_with_entry : Stmt := inCls (top 30) 14
abbrev N_AccessList_with_entry : List Str := ["self", "kind", "rights", "name"]
theorem sc_AccessList_with_entry : FnScope N_AccessList_with_entry ["self", "kind", "rights", "name"] (defScope s_AccessList_with_entry) := ⟨rfl, rfl, rfl, by decide +kernel, rfl, by decide +kernel, by decide +kernel⟩
abbrev s_AccessList_without : Stmt := inCls (top 30) 15
abbrev N_AccessList_without : List Str := ["self", "kind", "name", "entries", "kinds"]
theorem sc_AccessList_without : FnScope N_AccessList_without ["self", "kind", "name"] (defScope s_AccessList_without) := ⟨rfl, rfl, rfl, by decide +kernel, rfl, by decide +kernel, by decide +kernel⟩
abbrev s_AccessList_with_digits : Stmt := inCls (top 30) 16
abbrev N_AccessList_with_digits : List Str := ["self", "digits"]
theorem sc_AccessList_with_digits : FnScope N_AccessList_with_digits ["self", "digits"] (defScope s_AccessList_with_digits) := ⟨rfl, rfl, rfl, by decide +kernel, rfl, by decide +kernel, by decide +kernel⟩
abbrev s_AccessList_narrowed : Stmt := inCls (top 30) 17
abbrev N_AccessList_narrowed : List Str := ["self", "digits"]
theorem sc_AccessList_narrowed : FnScope N_AccessList_narrowed ["self", "digits"] (defScope s_AccessList_narrowed) := ⟨rfl, rfl, rfl, by decide +kernel, rfl, by decide +kernel, by decide +kernel⟩
abbrev s_AccessList__with_three : Stmt := inCls (top 30) 18
abbrev N_AccessList__with_three : List Str := ["self", "owner", "middle", "other"]
theorem sc_AccessList__with_three : FnScope N_AccessList__with_three ["self", "owner", "middle", "other"] (defScope s_AccessList__with_three) := ⟨rfl, rfl, rfl, by decide +kernel, rfl, by decide +kernel, by decide +kernel⟩
abbrev s_AccessList__by_entry : Stmt := inCls (top 30) 19
abbrev N_AccessList__by_entry : List Str := ["self", "kind", "name", "rights"]
theorem sc_AccessList__by_entry : FnScope N_AccessList__by_entry ["self"] (defScope s_AccessList__by_entry) := ⟨rfl, rfl, rfl, by decide +kernel, rfl, by decide +kernel, by decide +kernel⟩
abbrev s_AccessList___eq__ : Stmt := inCls (top 30) 20
abbrev N_AccessList___eq__ : List Str := ["self", "other"]
theorem sc_AccessList___eq__ : FnScope N_AccessList___eq__ ["self", "other"] (defScope s_AccessList___eq__) := ⟨rfl, rfl, rfl, by decide +kernel, rfl, by decide +kernel, by decide +kernel⟩
abbrev s_AccessList___len__ : Stmt := inCls (top 30) 21
abbrev N_AccessList___len__ : List Str := ["self"]
theorem sc_AccessList___len__ : FnScope N_AccessList___len__ ["self"] (defScope s_AccessList___len__) := ⟨rfl, rfl, rfl, by decide +kernel, rfl, by decide +kernel, by decide +kernel⟩
abbrev s_AccessList___str__ : Stmt := inCls (top 30) 22
abbrev N_AccessList___str__ : List Str := ["self", "kind", "name", "rights"]
theorem sc_AccessList___str__ : FnScope N_AccessList___str__ ["self"] (defScope s_AccessList___str__) := ⟨rfl, rfl, rfl, by decide +kernel, rfl, by decide +kernel, by decide +kernel⟩
abbrev s_AccessList___repr__ : Stmt := inCls (top 30) 23
abbrev N_AccessList___repr__ : List Str := ["self"]
theorem sc_AccessList___repr__ : FnScope N_AccessList___repr__ ["self"] (defScope s_AccessList___repr__) := ⟨rfl, rfl, rfl, by decide +kernel, rfl, by decide +kernel, by decide +kernel⟩
abbrev s_Start___init__ : Stmt := inCls (top 39) 0
abbrev N_Start___init__ : List Str := ["self", "default", "group", "passes", "umask"]
theorem sc_Start___init__ : FnScope N_Start___init__ ["self", "default", "group", "passes", "umask"] (defScope s_Start___init__) := ⟨rfl, rfl, rfl, by decide +kernel, rfl, by decide +kernel, by decide +kernel⟩
abbrev s_Start_default : Stmt := inCls (top 39) 1
abbrev N_Start_default : List Str := ["self"]
theorem sc_Start_default : FnScope N_Start_default ["self"] (defScope s_Start_default) := ⟨rfl, rfl, rfl, by decide +kernel, rfl, by decide +kernel, by decide +kernel⟩
abbrev s_Start_group : Stmt := inCls (top 39) 2
abbrev N_Start_group : List Str := ["self"]
theorem sc_Start_group : FnScope N_Start_group ["self"] (defScope s_Start_group) := ⟨rfl, rfl, rfl, by decide +kernel, rfl, by decide +kernel, by decide +kernel⟩
abbrev s_Start_passes : Stmt := inCls (top 39) 3
abbrev N_Start_passes : List Str := ["self"]
theorem sc_Start_passes : FnScope N_Start_passes ["self"] (defScope s_Start_passes) := ⟨rfl, rfl, rfl, by decide +kernel, rfl, by decide +kernel, by decide +kernel⟩
abbrev s_Start_umask : Stmt := inCls (top 39) 4
abbrev N_Start_umask : List Str := ["self"]
theorem sc_Start_umask : FnScope N_Start_umask ["self"] (defScope s_Start_umask) := ⟨rfl, rfl, rfl, by decide +kernel, rfl, by decide +kernel, by decide +kernel⟩
abbrev s_Start__told : Stmt := inCls (top 39) 5
abbrev N_Start__told : List Str := ["self"]
theorem sc_Start__told : FnScope N_Start__told ["self"] (defScope s_Start__told) := ⟨rfl, rfl, rfl, by decide +kernel, rfl, by decide +kernel, by decide +kernel⟩
abbrev s_Start___eq__ : Stmt := inCls (top 39) 6
abbrev N_Start___eq__ : List Str := ["self", "other"]
theorem sc_Start___eq__ : FnScope N_Start___eq__ ["self", "other"] (defScope s_Start___eq__) := ⟨rfl, rfl, rfl, by decide +kernel, rfl, by decide +kernel, by decide +kernel⟩
abbrev s_Start___repr__ : Stmt := inCls (top 39) 7
abbrev N_Start___repr__ : List Str := ["self"]
theorem sc_Start___repr__ : FnScope N_Start___repr__ ["self"] (defScope s_Start___repr__) := ⟨rfl, rfl, rfl, by decide +kernel, rfl, by decide +kernel, by decide +kernel⟩
structure Ads where
  f__wall : Addr
  d__wall : FuncData
  f_is_integer : Addr
  d_is_integer : FuncData
  f_is_name : Addr
  d_is_name : FuncData
  f_is_user_name : Addr
  d_is_user_name : FuncData
  f_as_rights : Addr
  d_as_rights : FuncData
  f__is_letters : Addr
  d__is_letters : FuncData
  f__digit_of : Addr
  d__digit_of : FuncData
  f_is_digits : Addr
  d_is_digits : FuncData
  f__three_rights : Addr
  d__three_rights : FuncData
  f__named_rights : Addr
  d__named_rights : FuncData
  f__keys_in_order : Addr
  d__keys_in_order : FuncData
  f_cell : Addr
  d_cell : FuncData
  f_bag : Addr
  d_bag : FuncData
  f_take : Addr
  d_take : FuncData
  f_part : Addr
  d_part : FuncData
  f_odd : Addr
  d_odd : FuncData
  f_opened : Addr
  d_opened : FuncData
  f_tried : Addr
  d_tried : FuncData
  f_shown : Addr
  d_shown : FuncData
  f_law : Addr
  d_law : FuncData
  f_Rights___init__ : Addr
  d_Rights___init__ : FuncData
  f_Rights_of : Addr
  d_Rights_of : FuncData
  P_Rights_of : Addr
  f_Rights_from_digit : Addr
  d_Rights_from_digit : FuncData
  P_Rights_from_digit : Addr
  f_Rights_digit : Addr
  d_Rights_digit : FuncData
  P_Rights_digit : Addr
  f_Rights___or__ : Addr
  d_Rights___or__ : FuncData
  f_Rights___eq__ : Addr
  d_Rights___eq__ : FuncData
  f_AccessList___init__ : Addr
  d_AccessList___init__ : FuncData
  f_AccessList__first_mask : Addr
  d_AccessList__first_mask : FuncData
  f_AccessList_plain : Addr
  d_AccessList_plain : FuncData
  P_AccessList_plain : Addr
  f_AccessList_entries : Addr
  d_AccessList_entries : FuncData
  f_AccessList___eq__ : Addr
  d_AccessList___eq__ : FuncData
  f_Start___init__ : Addr
  d_Start___init__ : FuncData
  f_Start_default : Addr
  d_Start_default : FuncData
  P_Start_default : Addr
  f_Start_group : Addr
  d_Start_group : FuncData
  P_Start_group : Addr
  f_Start_passes : Addr
  d_Start_passes : FuncData
  P_Start_passes : Addr
  f_Start_umask : Addr
  d_Start_umask : FuncData
  P_Start_umask : Addr
  f_Start__told : Addr
  d_Start__told : FuncData
  f_Start___eq__ : Addr
  d_Start___eq__ : FuncData
  C_Rights : Addr
  C_AccessList : Addr
  C_Start : Addr
  C_InvalidList : Addr
  C_InvalidName : Addr
  C_InvalidNode : Addr
  C_InvalidDigits : Addr
  C_RightsError : Addr
  C_MissingError : Addr
  I_InvalidList : Addr
  I_InvalidName : Addr
  I_InvalidNode : Addr
  I_InvalidDigits : Addr
  K_DIGITS : Addr
  K_WORDS : Addr
  K_PLAIN_KINDS : Addr
  K_NAMED_KINDS : Addr
  K_KIND_SIGNS : Addr
structure Txt (w : World) (K : PySem.W.Frag) (mg : Str → Option Value) (A : Ads) : Prop where
  F__wall : Fun K "_wall" "_wall" s__wall A.f__wall A.d__wall
  B__wall : Binds K A.d__wall ["k"] []
  g__wall : mg "_wall" = some (.ref A.f__wall)
  F_is_integer : Fun K "is_integer" "is_integer" s_is_integer A.f_is_integer A.d_is_integer
  B_is_integer : Binds K A.d_is_integer ["value", "low", "high"] []
  g_is_integer : mg "is_integer" = some (.ref A.f_is_integer)
  F_is_name : Fun K "is_name" "is_name" s_is_name A.f_is_name A.d_is_name
  B_is_name : Binds K A.d_is_name ["value"] []
  g_is_name : mg "is_name" = some (.ref A.f_is_name)
  F_is_user_name : Fun K "is_user_name" "is_user_name" s_is_user_name A.f_is_user_name A.d_is_user_name
  B_is_user_name : Binds K A.d_is_user_name ["value"] []
  g_is_user_name : mg "is_user_name" = some (.ref A.f_is_user_name)
  F_as_rights : Fun K "as_rights" "as_rights" s_as_rights A.f_as_rights A.d_as_rights
  B_as_rights : Binds K A.d_as_rights ["value"] []
  g_as_rights : mg "as_rights" = some (.ref A.f_as_rights)
  F__is_letters : Fun K "_is_letters" "_is_letters" s__is_letters A.f__is_letters A.d__is_letters
  B__is_letters : Binds K A.d__is_letters ["value"] []
  g__is_letters : mg "_is_letters" = some (.ref A.f__is_letters)
  F__digit_of : Fun K "_digit_of" "_digit_of" s__digit_of A.f__digit_of A.d__digit_of
  B__digit_of : Binds K A.d__digit_of ["value"] []
  g__digit_of : mg "_digit_of" = some (.ref A.f__digit_of)
  F_is_digits : Fun K "is_digits" "is_digits" s_is_digits A.f_is_digits A.d_is_digits
  B_is_digits : Binds K A.d_is_digits ["value"] []
  g_is_digits : mg "is_digits" = some (.ref A.f_is_digits)
  F__three_rights : Fun K "_three_rights" "_three_rights" s__three_rights A.f__three_rights A.d__three_rights
  B__three_rights : Binds K A.d__three_rights ["digits"] []
  g__three_rights : mg "_three_rights" = some (.ref A.f__three_rights)
  F__named_rights : Fun K "_named_rights" "_named_rights" s__named_rights A.f__named_rights A.d__named_rights
  B__named_rights : Binds K A.d__named_rights ["value"] []
  g__named_rights : mg "_named_rights" = some (.ref A.f__named_rights)
  F__keys_in_order : Fun K "_keys_in_order" "_keys_in_order" s__keys_in_order A.f__keys_in_order A.d__keys_in_order
  B__keys_in_order : Binds K A.d__keys_in_order ["value"] []
  g__keys_in_order : mg "_keys_in_order" = some (.ref A.f__keys_in_order)
  F_cell : Fun K "_law_cell" "_law_cell" s_cell A.f_cell A.d_cell
  B_cell : Binds K A.d_cell ["_law_script", "_law_k"] []
  g_cell : mg "_law_cell" = some (.ref A.f_cell)
  F_bag : Fun K "_law_bag" "_law_bag" s_bag A.f_bag A.d_bag
  B_bag : Binds K A.d_bag ["_law_number"] []
  g_bag : mg "_law_bag" = some (.ref A.f_bag)
  F_take : Fun K "_law_take" "_law_take" s_take A.f_take A.d_take
  B_take : Binds K A.d_take ["_law_bag_here", "_law_count"] []
  g_take : mg "_law_take" = some (.ref A.f_take)
  F_part : Fun K "_law_part" "_law_part" s_part A.f_part A.d_part
  B_part : Binds K A.d_part ["_law_bag_here", "_law_at"] []
  g_part : mg "_law_part" = some (.ref A.f_part)
  F_odd : Fun K "_law_odd" "_law_odd" s_odd A.f_odd A.d_odd
  B_odd : Binds K A.d_odd ["_law_bag_here", "_law_at"] []
  g_odd : mg "_law_odd" = some (.ref A.f_odd)
  F_opened : Fun K "_law_opened" "_law_opened" s_opened A.f_opened A.d_opened
  B_opened : Binds K A.d_opened ["_law_parts", "_law_way"] []
  g_opened : mg "_law_opened" = some (.ref A.f_opened)
  F_tried : Fun K "_law_tried" "_law_tried" s_tried A.f_tried A.d_tried
  B_tried : Binds K A.d_tried ["_law_parts"] []
  g_tried : mg "_law_tried" = some (.ref A.f_tried)
  F_shown : Fun K "_law_shown" "_law_shown" s_shown A.f_shown A.d_shown
  B_shown : Binds K A.d_shown ["_law_start"] []
  g_shown : mg "_law_shown" = some (.ref A.f_shown)
  F_law : Fun K "law" "law" s_law A.f_law A.d_law
  B_law : Binds K A.d_law ["_law_script"] []
  g_law : mg "law" = some (.ref A.f_law)
  F_Rights___init__ : FunD K "__init__" "Rights.__init__" (defArgs s_Rights___init__) (defBody s_Rights___init__) (defScope s_Rights___init__) [.str ""] [] A.f_Rights___init__ A.d_Rights___init__
  me_Rights___init__ : Meth K A.C_Rights "__init__" A.f_Rights___init__
  F_Rights_of : Fun K "of" "Rights.of" s_Rights_of A.f_Rights_of A.d_Rights_of
  cm_Rights_of : ClX.CMet K A.C_Rights (.type "type") "of" A.P_Rights_of A.f_Rights_of
  F_Rights_from_digit : Fun K "from_digit" "Rights.from_digit" s_Rights_from_digit A.f_Rights_from_digit A.d_Rights_from_digit
  B_Rights_from_digit : Binds K A.d_Rights_from_digit ["cls", "digit"] []
  cm_Rights_from_digit : ClX.CMet K A.C_Rights (.type "type") "from_digit" A.P_Rights_from_digit A.f_Rights_from_digit
  F_Rights_digit : Fun K "digit" "Rights.digit" s_Rights_digit A.f_Rights_digit A.d_Rights_digit
  B_Rights_digit : Binds K A.d_Rights_digit ["self"] []
  pr_Rights_digit : PropOf K A.C_Rights "digit" A.P_Rights_digit A.f_Rights_digit
  F_Rights___or__ : Fun K "__or__" "Rights.__or__" s_Rights___or__ A.f_Rights___or__ A.d_Rights___or__
  B_Rights___or__ : Binds K A.d_Rights___or__ ["self", "other"] []
  me_Rights___or__ : Meth K A.C_Rights "__or__" A.f_Rights___or__
  F_Rights___eq__ : Fun K "__eq__" "Rights.__eq__" s_Rights___eq__ A.f_Rights___eq__ A.d_Rights___eq__
  B_Rights___eq__ : Binds K A.d_Rights___eq__ ["self", "other"] []
  me_Rights___eq__ : Meth K A.C_Rights "__eq__" A.f_Rights___eq__
  F_AccessList___init__ : FunD K "__init__" "AccessList.__init__" (defArgs s_AccessList___init__) (defBody s_AccessList___init__) (defScope s_AccessList___init__) [] [("users", .non), ("groups", .non), ("mask", .non)] A.f_AccessList___init__ A.d_AccessList___init__
  me_AccessList___init__ : Meth K A.C_AccessList "__init__" A.f_AccessList___init__
  F_AccessList__first_mask : Fun K "_first_mask" "AccessList._first_mask" s_AccessList__first_mask A.f_AccessList__first_mask A.d_AccessList__first_mask
  B_AccessList__first_mask : Binds K A.d_AccessList__first_mask ["self"] []
  me_AccessList__first_mask : Meth K A.C_AccessList "_first_mask" A.f_AccessList__first_mask
  F_AccessList_plain : Fun K "plain" "AccessList.plain" s_AccessList_plain A.f_AccessList_plain A.d_AccessList_plain
  B_AccessList_plain : Binds K A.d_AccessList_plain ["cls", "digits"] []
  cm_AccessList_plain : ClX.CMet K A.C_AccessList (.type "type") "plain" A.P_AccessList_plain A.f_AccessList_plain
  F_AccessList_entries : Fun K "entries" "AccessList.entries" s_AccessList_entries A.f_AccessList_entries A.d_AccessList_entries
  B_AccessList_entries : Binds K A.d_AccessList_entries ["self"] []
  me_AccessList_entries : Meth K A.C_AccessList "entries" A.f_AccessList_entries
  F_AccessList___eq__ : Fun K "__eq__" "AccessList.__eq__" s_AccessList___eq__ A.f_AccessList___eq__ A.d_AccessList___eq__
  B_AccessList___eq__ : Binds K A.d_AccessList___eq__ ["self", "other"] []
  me_AccessList___eq__ : Meth K A.C_AccessList "__eq__" A.f_AccessList___eq__
  F_Start___init__ : FunD K "__init__" "Start.__init__" (defArgs s_Start___init__) (defBody s_Start___init__) (defScope s_Start___init__) [] [("default", .non), ("group", .str "root"), ("passes", .bl false), ("umask", .str "000")] A.f_Start___init__ A.d_Start___init__
  me_Start___init__ : Meth K A.C_Start "__init__" A.f_Start___init__
  F_Start_default : Fun K "default" "Start.default" s_Start_default A.f_Start_default A.d_Start_default
  B_Start_default : Binds K A.d_Start_default ["self"] []
  pr_Start_default : PropOf K A.C_Start "default" A.P_Start_default A.f_Start_default
  F_Start_group : Fun K "group" "Start.group" s_Start_group A.f_Start_group A.d_Start_group
  B_Start_group : Binds K A.d_Start_group ["self"] []
  pr_Start_group : PropOf K A.C_Start "group" A.P_Start_group A.f_Start_group
  F_Start_passes : Fun K "passes" "Start.passes" s_Start_passes A.f_Start_passes A.d_Start_passes
  B_Start_passes : Binds K A.d_Start_passes ["self"] []
  pr_Start_passes : PropOf K A.C_Start "passes" A.P_Start_passes A.f_Start_passes
  F_Start_umask : Fun K "umask" "Start.umask" s_Start_umask A.f_Start_umask A.d_Start_umask
  B_Start_umask : Binds K A.d_Start_umask ["self"] []
  pr_Start_umask : PropOf K A.C_Start "umask" A.P_Start_umask A.f_Start_umask
  F_Start__told : Fun K "_told" "Start._told" s_Start__told A.f_Start__told A.d_Start__told
  B_Start__told : Binds K A.d_Start__told ["self"] []
  me_Start__told : Meth K A.C_Start "_told" A.f_Start__told
  F_Start___eq__ : Fun K "__eq__" "Start.__eq__" s_Start___eq__ A.f_Start___eq__ A.d_Start___eq__
  B_Start___eq__ : Binds K A.d_Start___eq__ ["self", "other"] []
  me_Start___eq__ : Meth K A.C_Start "__eq__" A.f_Start___eq__
  gC_Rights : mg "Rights" = some (.ref A.C_Rights)
  c_Rights : ∃ u, mg "Rights" = some u ∧ RelV (.ref A.C_Rights) u
  cl_Rights : Cls K A.C_Rights
  mk_Rights : Mk K A.C_Rights A.f_Rights___init__
  cr_Rights : ClX.CRead K A.C_Rights (.type "type")
  in_Rights : C8.InsC K A.C_Rights
  sf_Rights : PySem.W.selfFirst K A.C_Rights = true
  cd_Rights : ∃ cd, PySem.W.clsIn K A.C_Rights = some cd ∧ cd.mro = [.ref A.C_Rights, .type "object"]
  ne_Rights : PySem.W.findIn K (.ref A.C_Rights) "__ne__" = some (some (.builtin "object.__ne__"))
  na_Rights__digit : NoAttr K A.C_Rights "_digit"
  nf_Rights_NoneType : PySem.W.notFirst K A.C_Rights (.type "NoneType") = true
  kt_Rights_NoneType : PySem.W.kitOne K (.type "NoneType") (.ref A.C_Rights) = some false
  nf_Rights_bool : PySem.W.notFirst K A.C_Rights (.type "bool") = true
  kt_Rights_bool : PySem.W.kitOne K (.type "bool") (.ref A.C_Rights) = some false
  nf_Rights_int : PySem.W.notFirst K A.C_Rights (.type "int") = true
  kt_Rights_int : PySem.W.kitOne K (.type "int") (.ref A.C_Rights) = some false
  nf_Rights_str : PySem.W.notFirst K A.C_Rights (.type "str") = true
  kt_Rights_str : PySem.W.kitOne K (.type "str") (.ref A.C_Rights) = some false
  nf_Rights_list : PySem.W.notFirst K A.C_Rights (.type "list") = true
  kt_Rights_list : PySem.W.kitOne K (.type "list") (.ref A.C_Rights) = some false
  nf_Rights_tuple : PySem.W.notFirst K A.C_Rights (.type "tuple") = true
  kt_Rights_tuple : PySem.W.kitOne K (.type "tuple") (.ref A.C_Rights) = some false
  nf_Rights_dict : PySem.W.notFirst K A.C_Rights (.type "dict") = true
  kt_Rights_dict : PySem.W.kitOne K (.type "dict") (.ref A.C_Rights) = some false
  sb_Rights_NoneType : PySem.W.subIn K (.type "NoneType") (.ref A.C_Rights) = some false
  sb_Rights_bool : PySem.W.subIn K (.type "bool") (.ref A.C_Rights) = some false
  sb_Rights_int : PySem.W.subIn K (.type "int") (.ref A.C_Rights) = some false
  sb_Rights_str : PySem.W.subIn K (.type "str") (.ref A.C_Rights) = some false
  sb_Rights_list : PySem.W.subIn K (.type "list") (.ref A.C_Rights) = some false
  sb_Rights_tuple : PySem.W.subIn K (.type "tuple") (.ref A.C_Rights) = some false
  sb_Rights_dict : PySem.W.subIn K (.type "dict") (.ref A.C_Rights) = some false
  gC_AccessList : mg "AccessList" = some (.ref A.C_AccessList)
  c_AccessList : ∃ u, mg "AccessList" = some u ∧ RelV (.ref A.C_AccessList) u
  cl_AccessList : Cls K A.C_AccessList
  mk_AccessList : Mk K A.C_AccessList A.f_AccessList___init__
  cr_AccessList : ClX.CRead K A.C_AccessList (.type "type")
  in_AccessList : C8.InsC K A.C_AccessList
  sf_AccessList : PySem.W.selfFirst K A.C_AccessList = true
  cd_AccessList : ∃ cd, PySem.W.clsIn K A.C_AccessList = some cd ∧ cd.mro = [.ref A.C_AccessList, .type "object"]
  ne_AccessList : PySem.W.findIn K (.ref A.C_AccessList) "__ne__" = some (some (.builtin "object.__ne__"))
  na_AccessList__owner : NoAttr K A.C_AccessList "_owner"
  na_AccessList__group : NoAttr K A.C_AccessList "_group"
  na_AccessList__other : NoAttr K A.C_AccessList "_other"
  na_AccessList__users : NoAttr K A.C_AccessList "_users"
  na_AccessList__groups : NoAttr K A.C_AccessList "_groups"
  na_AccessList__mask : NoAttr K A.C_AccessList "_mask"
  nf_AccessList_NoneType : PySem.W.notFirst K A.C_AccessList (.type "NoneType") = true
  kt_AccessList_NoneType : PySem.W.kitOne K (.type "NoneType") (.ref A.C_AccessList) = some false
  nf_AccessList_bool : PySem.W.notFirst K A.C_AccessList (.type "bool") = true
  kt_AccessList_bool : PySem.W.kitOne K (.type "bool") (.ref A.C_AccessList) = some false
  nf_AccessList_int : PySem.W.notFirst K A.C_AccessList (.type "int") = true
  kt_AccessList_int : PySem.W.kitOne K (.type "int") (.ref A.C_AccessList) = some false
  nf_AccessList_str : PySem.W.notFirst K A.C_AccessList (.type "str") = true
  kt_AccessList_str : PySem.W.kitOne K (.type "str") (.ref A.C_AccessList) = some false
  nf_AccessList_list : PySem.W.notFirst K A.C_AccessList (.type "list") = true
  kt_AccessList_list : PySem.W.kitOne K (.type "list") (.ref A.C_AccessList) = some false
  nf_AccessList_tuple : PySem.W.notFirst K A.C_AccessList (.type "tuple") = true
  kt_AccessList_tuple : PySem.W.kitOne K (.type "tuple") (.ref A.C_AccessList) = some false
  nf_AccessList_dict : PySem.W.notFirst K A.C_AccessList (.type "dict") = true
  kt_AccessList_dict : PySem.W.kitOne K (.type "dict") (.ref A.C_AccessList) = some false
  sb_AccessList_NoneType : PySem.W.subIn K (.type "NoneType") (.ref A.C_AccessList) = some false
  sb_AccessList_bool : PySem.W.subIn K (.type "bool") (.ref A.C_AccessList) = some false
  sb_AccessList_int : PySem.W.subIn K (.type "int") (.ref A.C_AccessList) = some false
  sb_AccessList_str : PySem.W.subIn K (.type "str") (.ref A.C_AccessList) = some false
  sb_AccessList_list : PySem.W.subIn K (.type "list") (.ref A.C_AccessList) = some false
  sb_AccessList_tuple : PySem.W.subIn K (.type "tuple") (.ref A.C_AccessList) = some false
  sb_AccessList_dict : PySem.W.subIn K (.type "dict") (.ref A.C_AccessList) = some false
  gC_Start : mg "Start" = some (.ref A.C_Start)
  c_Start : ∃ u, mg "Start" = some u ∧ RelV (.ref A.C_Start) u
  cl_Start : Cls K A.C_Start
  mk_Start : Mk K A.C_Start A.f_Start___init__
  cr_Start : ClX.CRead K A.C_Start (.type "type")
  in_Start : C8.InsC K A.C_Start
  sf_Start : PySem.W.selfFirst K A.C_Start = true
  cd_Start : ∃ cd, PySem.W.clsIn K A.C_Start = some cd ∧ cd.mro = [.ref A.C_Start, .type "object"]
  ne_Start : PySem.W.findIn K (.ref A.C_Start) "__ne__" = some (some (.builtin "object.__ne__"))
  na_Start__default : NoAttr K A.C_Start "_default"
  na_Start__group : NoAttr K A.C_Start "_group"
  na_Start__passes : NoAttr K A.C_Start "_passes"
  na_Start__umask : NoAttr K A.C_Start "_umask"
  nf_Start_NoneType : PySem.W.notFirst K A.C_Start (.type "NoneType") = true
  kt_Start_NoneType : PySem.W.kitOne K (.type "NoneType") (.ref A.C_Start) = some false
  nf_Start_bool : PySem.W.notFirst K A.C_Start (.type "bool") = true
  kt_Start_bool : PySem.W.kitOne K (.type "bool") (.ref A.C_Start) = some false
  nf_Start_int : PySem.W.notFirst K A.C_Start (.type "int") = true
  kt_Start_int : PySem.W.kitOne K (.type "int") (.ref A.C_Start) = some false
  nf_Start_str : PySem.W.notFirst K A.C_Start (.type "str") = true
  kt_Start_str : PySem.W.kitOne K (.type "str") (.ref A.C_Start) = some false
  nf_Start_list : PySem.W.notFirst K A.C_Start (.type "list") = true
  kt_Start_list : PySem.W.kitOne K (.type "list") (.ref A.C_Start) = some false
  nf_Start_tuple : PySem.W.notFirst K A.C_Start (.type "tuple") = true
  kt_Start_tuple : PySem.W.kitOne K (.type "tuple") (.ref A.C_Start) = some false
  nf_Start_dict : PySem.W.notFirst K A.C_Start (.type "dict") = true
  kt_Start_dict : PySem.W.kitOne K (.type "dict") (.ref A.C_Start) = some false
  sb_Start_NoneType : PySem.W.subIn K (.type "NoneType") (.ref A.C_Start) = some false
  sb_Start_bool : PySem.W.subIn K (.type "bool") (.ref A.C_Start) = some false
  sb_Start_int : PySem.W.subIn K (.type "int") (.ref A.C_Start) = some false
  sb_Start_str : PySem.W.subIn K (.type "str") (.ref A.C_Start) = some false
  sb_Start_list : PySem.W.subIn K (.type "list") (.ref A.C_Start) = some false
  sb_Start_tuple : PySem.W.subIn K (.type "tuple") (.ref A.C_Start) = some false
  sb_Start_dict : PySem.W.subIn K (.type "dict") (.ref A.C_Start) = some false
  c_InvalidList : ∃ u, mg "InvalidList" = some u ∧ RelV (.ref A.C_InvalidList) u
  c_InvalidName : ∃ u, mg "InvalidName" = some u ∧ RelV (.ref A.C_InvalidName) u
  c_InvalidNode : ∃ u, mg "InvalidNode" = some u ∧ RelV (.ref A.C_InvalidNode) u
  c_InvalidDigits : ∃ u, mg "InvalidDigits" = some u ∧ RelV (.ref A.C_InvalidDigits) u
  c_RightsError : ∃ u, mg "RightsError" = some u ∧ RelV (.ref A.C_RightsError) u
  c_MissingError : ∃ u, mg "MissingError" = some u ∧ RelV (.ref A.C_MissingError) u
  low_InvalidList : PySem.ExV.LowTxt K mg "InvalidList" "InvalidList.__init__" A.C_InvalidList A.I_InvalidList
  ec_InvalidList : ExcC K A.C_InvalidList
  low_InvalidName : PySem.ExV.LowTxt K mg "InvalidName" "InvalidName.__init__" A.C_InvalidName A.I_InvalidName
  ec_InvalidName : ExcC K A.C_InvalidName
  low_InvalidNode : PySem.ExV.LowTxt K mg "InvalidNode" "InvalidNode.__init__" A.C_InvalidNode A.I_InvalidNode
  ec_InvalidNode : ExcC K A.C_InvalidNode
  low_InvalidDigits : PySem.ExV.LowTxt K mg "InvalidDigits" "InvalidDigits.__init__" A.C_InvalidDigits A.I_InvalidDigits
  ec_InvalidDigits : ExcC K A.C_InvalidDigits
  kit_InvalidList_RightsError : PySem.W.kitOne K (.ref A.C_InvalidList) (.ref A.C_RightsError) = some true
  kit_InvalidName_RightsError : PySem.W.kitOne K (.ref A.C_InvalidName) (.ref A.C_RightsError) = some true
  kit_InvalidNode_RightsError : PySem.W.kitOne K (.ref A.C_InvalidNode) (.ref A.C_RightsError) = some true
  kit_InvalidDigits_RightsError : PySem.W.kitOne K (.ref A.C_InvalidDigits) (.ref A.C_RightsError) = some true
  kit_InvalidNode_MissingError : PySem.W.kitOne K (.ref A.C_InvalidNode) (.ref A.C_MissingError) = some false
  exm_InvalidName_InvalidList : PySem.W.exmOne K (.ref A.C_InvalidName) (.ref A.C_InvalidList) = some false
  exm_InvalidNode_InvalidList : PySem.W.exmOne K (.ref A.C_InvalidNode) (.ref A.C_InvalidList) = some false
  exm_InvalidNode_InvalidName : PySem.W.exmOne K (.ref A.C_InvalidNode) (.ref A.C_InvalidName) = some false
  exm_InvalidDigits_InvalidList : PySem.W.exmOne K (.ref A.C_InvalidDigits) (.ref A.C_InvalidList) = some false
  exm_InvalidDigits_InvalidName : PySem.W.exmOne K (.ref A.C_InvalidDigits) (.ref A.C_InvalidName) = some false
  exm_InvalidDigits_InvalidNode : PySem.W.exmOne K (.ref A.C_InvalidDigits) (.ref A.C_InvalidNode) = some false
  c_LONGEST_NAME : ∃ u, mg "LONGEST_NAME" = some u ∧ RelV (.int 8) u
  c_LETTERS : ∃ u, mg "LETTERS" = some u ∧ RelV (.str "rwx") u
  c_ALL_DIGIT : ∃ u, mg "ALL_DIGIT" = some u ∧ RelV (.int 7) u
  c_DIGITS : ∃ u, mg "DIGITS" = some u ∧ RelV (.ref A.K_DIGITS) u
  kd_DIGITS : ∃ es n, KDict K w A.K_DIGITS es n
  ms_DIGITS : ∀ z : Str, z ∉ (["", "x", "w", "wx", "xw", "r", "rx", "xr", "rw", "wr", "rwx", "rxw", "wrx", "wxr", "xrw", "xwr"] : List Str) → PySem.W.nsIn K A.K_DIGITS z = some none
  at_DIGITS_ : KDct K w A.K_DIGITS "" (.int 0)
  at_DIGITS_x : KDct K w A.K_DIGITS "x" (.int 1)
  at_DIGITS_w : KDct K w A.K_DIGITS "w" (.int 2)
  at_DIGITS_wx : KDct K w A.K_DIGITS "wx" (.int 3)
  at_DIGITS_xw : KDct K w A.K_DIGITS "xw" (.int 3)
  at_DIGITS_r : KDct K w A.K_DIGITS "r" (.int 4)
  at_DIGITS_rx : KDct K w A.K_DIGITS "rx" (.int 5)
  at_DIGITS_xr : KDct K w A.K_DIGITS "xr" (.int 5)
  at_DIGITS_rw : KDct K w A.K_DIGITS "rw" (.int 6)
  at_DIGITS_wr : KDct K w A.K_DIGITS "wr" (.int 6)
  at_DIGITS_rwx : KDct K w A.K_DIGITS "rwx" (.int 7)
  at_DIGITS_rxw : KDct K w A.K_DIGITS "rxw" (.int 7)
  at_DIGITS_wrx : KDct K w A.K_DIGITS "wrx" (.int 7)
  at_DIGITS_wxr : KDct K w A.K_DIGITS "wxr" (.int 7)
  at_DIGITS_xrw : KDct K w A.K_DIGITS "xrw" (.int 7)
  at_DIGITS_xwr : KDct K w A.K_DIGITS "xwr" (.int 7)
  c_WORDS : ∃ u, mg "WORDS" = some u ∧ RelV (.ref A.K_WORDS) u
  tu_WORDS : ∃ o its n, List.lookup A.K_WORDS K = some o ∧ o.cls = .type "tuple" ∧ o.data = .seq its n ∧ its.size ≤ sizeLine ∧ Vals [.str "", .str "x", .str "w", .str "wx", .str "r", .str "rx", .str "rw", .str "rwx"] its.toList
  c_MOST_NAMED : ∃ u, mg "MOST_NAMED" = some u ∧ RelV (.int 6) u
  c_PLAIN_KINDS : ∃ u, mg "PLAIN_KINDS" = some u ∧ RelV (.ref A.K_PLAIN_KINDS) u
  tu_PLAIN_KINDS : ∃ o its n, List.lookup A.K_PLAIN_KINDS K = some o ∧ o.cls = .type "tuple" ∧ o.data = .seq its n ∧ its.size ≤ sizeLine ∧ Vals [.str "owner", .str "group", .str "mask", .str "other"] its.toList
  c_NAMED_KINDS : ∃ u, mg "NAMED_KINDS" = some u ∧ RelV (.ref A.K_NAMED_KINDS) u
  tu_NAMED_KINDS : ∃ o its n, List.lookup A.K_NAMED_KINDS K = some o ∧ o.cls = .type "tuple" ∧ o.data = .seq its n ∧ its.size ≤ sizeLine ∧ Vals [.str "user", .str "named"] its.toList
  c_KIND_SIGNS : ∃ u, mg "KIND_SIGNS" = some u ∧ RelV (.ref A.K_KIND_SIGNS) u
  kd_KIND_SIGNS : ∃ es n, KDict K w A.K_KIND_SIGNS es n
  ms_KIND_SIGNS : ∀ z : Str, z ∉ (["owner", "user", "group", "named", "mask", "other"] : List Str) → PySem.W.nsIn K A.K_KIND_SIGNS z = some none
  at_KIND_SIGNS_owner : KDct K w A.K_KIND_SIGNS "owner" (.str "u")
  at_KIND_SIGNS_user : KDct K w A.K_KIND_SIGNS "user" (.str "u")
  at_KIND_SIGNS_group : KDct K w A.K_KIND_SIGNS "group" (.str "g")
  at_KIND_SIGNS_named : KDct K w A.K_KIND_SIGNS "named" (.str "g")
  at_KIND_SIGNS_mask : KDct K w A.K_KIND_SIGNS "mask" (.str "m")
  at_KIND_SIGNS_other : KDct K w A.K_KIND_SIGNS "other" (.str "o")
  b_all : mg "all" = none
  b_bool : mg "bool" = none
  b_dict : mg "dict" = none
  b_int : mg "int" = none
  b_isinstance : mg "isinstance" = none
  b_len : mg "len" = none
  b_list : mg "list" = none
  b_max : mg "max" = none
  b_min : mg "min" = none
  b_range : mg "range" = none
  b_repr : mg "repr" = none
  b_sorted : mg "sorted" = none
  b_str : mg "str" = none


end K51
namespace K51
open PySem PySem.Spec PyProof.Rows L2 FR TL
open C8 (pss_cut pe_gc)
open StX (pe_callS2 pa_star)
/-! ### the things that are handed in -/
inductive OddS (H : Hp) : V → PyData → Prop
  | non : OddS H .non .none
  | bl (b : Bool) : OddS H (.bl b) (.bool b)
  | int (i : Int) : OddS H (.int i) (.int i)
  | str (s : Str) : OddS H (.str s) (.str s)
  | lst {a : Addr} {ws : List Str} : H a = some (.lst (ws.map V.str)) → sysModules < a → OddS H (.ref a) (.list (ws.map .str))
  | tup {a : Addr} {ws : List Str} : H a = some (.tup (ws.map V.str)) → OddS H (.ref a) (.tuple (ws.map .str))
  | dc0 {a : Addr} : H a = some (.dK []) → OddS H (.ref a) (.dict [])
def isDc : PyData → Bool | .dict _ => true | _ => false
def okB (e : PyData) : Bool := e.showable && decide (e.depth ≤ 1) && e.leavesShort 40 && decide (e.weight ≤ 200) && (SeqAt.shaped e || isDc e)
structure Odd (H : Hp) (v : V) (e : PyData) : Prop where
  s : OddS H v e
  b : okB e = true
theorem Odd.keepA {H H' : Hp} {v : V} {e : PyData} (h : Odd H v e) (k : ∀ a o, v = .ref a → H a = some o → H' a = some o) : Odd H' v e := by
  obtain ⟨h, ob⟩ := h
  refine ⟨?_, ob⟩
  cases h with
  | non => exact .non
  | bl b => exact .bl b
  | int i => exact .int i
  | str s => exact .str s
  | lst e b => exact .lst (k _ _ rfl e) b
  | tup e => exact .tup (k _ _ rfl e)
  | dc0 e => exact .dc0 (k _ _ rfl e)
theorem Odd.keep {H H' : Hp} {v : V} {e : PyData} (h : Odd H v e) (k : Keep [] H H') : Odd H' v e := h.keepA fun a o _ q => k a o q (by simp)
theorem Odd.keepb {H H' : Hp} {v : V} {e : PyData} {b : Addr} {x y z : Int} (h : Odd H v e) (hb : H b = some (bagO x y z)) (k : Keep [b] H H') : Odd H' v e := h.keepA fun a o ev q => k a o q (by
  intro m
  have m' : a = b := by simpa using m
  subst m'
  rw [hb] at q
  cases q
  subst ev
  obtain ⟨hs, _⟩ := h
  cases hs with
  | @lst _ ws e _ =>
    rw [hb] at e
    have q2 := congrArg (fun o => match o with | some (.lst (.int i :: _)) => true | _ => false) e
    cases ws <;> cases q2
  | tup e => rw [hb] at e; cases e
  | dc0 e => rw [hb] at e; cases e)
def tyN : PyData → String
  | .none => "NoneType"
  | .bool _ => "bool"
  | .int _ => "int"
  | .str _ => "str"
  | .list _ => "list"
  | .tuple _ => "tuple"
  | .dict _ => "dict"
theorem Odd.ty {K : PySem.W.Frag} {H : Hp} {v : V} {e : PyData} (h : Odd H v e) : TyX K H v (.type (tyN e)) := by
  obtain ⟨h, _⟩ := h
  cases h with
  | non => exact .base .non
  | bl b => exact .base (.bl b)
  | int i => exact .base (.int i)
  | str s => exact .base (.str s)
  | lst a _ => exact .base (.lst a)
  | tup a => exact .base (.tup a)
  | dc0 a => exact .base (.dK a)
def isS : PyData → Bool | .str _ => true | _ => false
theorem kit_str (e : PyData) : kitB (tyN e) "str" = some (isS e) := by
  cases e
  case none => exact (by decide +kernel : kitB "NoneType" "str" = some false)
  case bool => exact (by decide +kernel : kitB "bool" "str" = some false)
  case int => exact (by decide +kernel : kitB "int" "str" = some false)
  case str => exact (by decide +kernel : kitB "str" "str" = some true)
  case list => exact (by decide +kernel : kitB "list" "str" = some false)
  case tuple => exact (by decide +kernel : kitB "tuple" "str" = some false)
  case dict => exact (by decide +kernel : kitB "dict" "str" = some false)
structure Fine (d : PyData) (n : Nat) : Prop where
  s : d.showable = true
  dp : d.depth ≤ n
  ls : d.leavesShort 40 = true
  wt : d.weight ≤ 1000
theorem Fine.all {d : PyData} (h : Fine d 50) : d.showable = true ∧ d.depth ≤ 50 ∧ d.shown.length ≤ sizeLine :=
  ⟨h.s, h.dp, size_le (by have h1 := PyData.shown_le 40 (by decide) d h.ls; have h2 := h.wt; have h3 := Nat.mul_le_mul_left (40 + 2) h2; omega)⟩
theorem okB_all {e : PyData} (h : okB e = true) : e.showable = true ∧ e.depth ≤ 1 ∧ e.leavesShort 40 = true ∧ e.weight ≤ 200 ∧ (SeqAt.shaped e || isDc e) = true := by
  unfold okB at h
  simp only [Bool.and_eq_true, decide_eq_true_eq] at h
  exact ⟨h.1.1.1.1, h.1.1.1.2, h.1.1.2, h.1.2, h.2⟩
theorem dq_strs {H : Hp} : ∀ ws : List Str, DqAll H (ws.map V.str) (ws.map .str)
  | [] => .nil
  | s :: r => .cons (.str s) (dq_strs r)
theorem Odd.dq {H : Hp} {v : V} {e : PyData} (h : Odd H v e) : Dq H v e := by
  obtain ⟨h, _⟩ := h
  cases h with
  | non => exact .non
  | bl b => exact .bl b
  | int i => exact .int i
  | str s => exact .str s
  | lst h1 h2 => exact .lst h1 h2 (dq_strs _)
  | tup h1 => exact .tup h1 (dq_strs _)
  | dc0 h1 => exact .dct h1 .nil
/-- a list of a word, a thing and true -/
theorem Odd.tri {H : Hp} {v : V} {e : PyData} {s : Str} {p : Addr} (h : Odd H v e) (hs : okB (.str s) = true) (hp : H p = some (.lst [.str s, v, .bl true])) (hsp : sysModules < p) :
    Dq H (.ref p) (.list [.str s, e, .bool true]) ∧ (PyData.list [.str s, e, .bool true]).showable = true ∧ (PyData.list [.str s, e, .bool true]).depth ≤ 50 ∧ (PyData.list [.str s, e, .bool true]).shown.length ≤ sizeLine := by
  obtain ⟨a1, a2, a3, a4, _⟩ := okB_all h.b
  obtain ⟨b1, b2, b3, b4, _⟩ := okB_all hs
  refine ⟨.lst hp hsp (.cons (.str s) (.cons h.dq (.cons (.bl true) .nil))), Fine.all ⟨?_, ?_, ?_, ?_⟩⟩
  · simp only [PyData.showable, PyData.showableAll, a1, Bool.and_self]
  · simp only [PyData.depth, PyData.depthAll]
    omega
  · simp only [PyData.leavesShort, PyData.leavesShortAll, a3, Bool.and_self, Bool.true_and, Bool.and_true]
    simpa [PyData.leavesShort] using b3
  · simp only [PyData.weight, PyData.weightAll] at *
    omega
/-! ### a thing beside a text and among texts -/
theorem Odd.dp {K : PySem.W.Frag} {H : Hp} {v : V} {e : PyData} (h : Odd H v e) : (Dp K H v e ∧ ∀ kvs, e ≠ .dict kvs) ∨ ∃ a, v = .ref a ∧ H a = some (.dK []) := by
  obtain ⟨h, _⟩ := h
  cases h with
  | non => exact .inl ⟨.non, fun _ z => by cases z⟩
  | bl b => exact .inl ⟨.bl b, fun _ z => by cases z⟩
  | int i => exact .inl ⟨.int i, fun _ z => by cases z⟩
  | str s => exact .inl ⟨.str s, fun _ z => by cases z⟩
  | lst h1 h2 => exact .inl ⟨.lst (.inl (.inl h1)) (dpAll_strs _), fun _ z => by cases z⟩
  | tup h1 => exact .inl ⟨.tup (.inl (.of h1)) (dpAll_strs _), fun _ z => by cases z⟩
  | dc0 h1 => exact .inr ⟨_, rfl, h1⟩
theorem str_eqv (a b : Str) : PyData.eqv (.str a) (.str b) = decide (a = b) := by
  show (a == b) = _
  by_cases c : a = b
  · rw [decide_eq_true c]; exact beq_iff_eq.mpr c
  · rw [decide_eq_false c]; exact beq_eq_false_iff_ne.mpr c
theorem sh_of {e : PyData} (h : okB e = true) (nd : ∀ kvs, e ≠ .dict kvs) : SeqAt.shaped e = true := by
  rcases Bool.or_eq_true_iff.mp (okB_all h).2.2.2.2 with h | h
  · exact h
  · cases e with
    | dict kvs => exact absurd rfl (nd kvs)
    | _ => cases h
/-- the text that a thing is -/
def isT (v : V) (b : Str) : Bool := decide (v = .str b)
theorem Odd.eqt {K : PySem.W.Frag} {H : Hp} {v : V} {e : PyData} (h : Odd H v e) {b : Str} (hb : SeqAt.shaped (.str b) = true) : EqT K H v b (isT v b) := by
  obtain ⟨hs, hB⟩ := id h
  rcases h.dp (K := K) with ⟨hd, nd⟩ | ⟨a, rfl, ha⟩
  · refine .inl ⟨e, hd, sh_of hB nd, hb, ?_⟩
    cases hs with
    | str s => rw [str_eqv]; exact decide_eq_decide.mpr ⟨fun z => by rw [z], fun z => V.str.inj z⟩
    | dc0 _ => exact absurd rfl (nd _)
    | _ => exact (decide_eq_false fun z => by cases z).symm
  · exact .inr ⟨a, _, rfl, ha, (decide_eq_false fun z => by cases z).symm⟩
theorem Odd.int {K : PySem.W.Frag} {H : Hp} {v : V} {e : PyData} (h : Odd H v e) {ws : List Str} (hw : SeqAt.shaped (.list (ws.map .str)) = true) : InT K H v ws (ws.any fun b => isT v b) := by
  obtain ⟨hs, hB⟩ := id h
  rcases h.dp (K := K) with ⟨hd, nd⟩ | ⟨a, rfl, ha⟩
  · refine .inr (.inl ⟨e, hd, sh_of hB nd, hw, ?_⟩)
    rw [List.any_map]
    congr 1
    funext b
    show PyData.eqv (.str b) e = _
    cases hs with
    | str s => rw [str_eqv]; exact decide_eq_decide.mpr ⟨fun z => by rw [z], fun z => (V.str.inj z).symm⟩
    | dc0 _ => exact absurd rfl (nd _)
    | _ => exact (decide_eq_false fun z => by cases z).symm
  · refine .inr (.inr ⟨a, _, rfl, ha, ?_⟩)
    rw [eq_comm, List.any_eq_false]
    exact fun b _ => by rw [isT, decide_eq_false fun z => by cases z]; exact Bool.false_ne_true
end K51
namespace K51
open PySem PySem.Spec PyProof.Rows L2 FR TL
open C8 (pss_cut pe_gc)
/-- a word's name: one to eight small letters -/
def nm (s : Str) : Bool := decide (s ≠ Str.ofString "" ∧ s.length ≤ 8) && (tl s).all lc
theorem alpha_lc : ∀ c : Fin 128, Unicode.isAlpha c.1 = true → (Unicode.isUpper c.1 || Unicode.isTitle c.1) = false → lc c.1 = true := by decide +kernel
theorem empty_iff (s : Str) : s = Str.ofString "" ↔ tl s = [] := ⟨fun h => by rw [h]; decide +kernel, fun h => ext_tl (by rw [h]; decide +kernel)⟩
theorem name_eq {s : Str} (a : Asc s) : (Txt.isalpha s && Txt.islower s) = (decide (s ≠ Str.ofString "") && (tl s).all lc) := by
  show ((decide (s.length > 0) && s.cps.all Unicode.isAlpha) && (s.cps.any Unicode.isLower && !s.cps.any fun c => Unicode.isUpper c || Unicode.isTitle c)) = _
  rw [all_tl, any_tl, any_tl, len_tl, show decide (s ≠ Str.ofString "") = decide (tl s ≠ []) from decide_eq_decide.mpr (not_congr (empty_iff s))]
  have ha := a
  unfold Asc at ha
  generalize tl s = l at ha
  rw [Bool.eq_iff_iff]
  simp only [Bool.and_eq_true, decide_eq_true_eq, List.all_eq_true, List.any_eq_true, Bool.not_eq_true', List.any_eq_false]
  constructor
  · rintro ⟨⟨h0, h1⟩, _, h3⟩
    exact ⟨fun e => by subst e; simp at h0, fun c hc => alpha_lc ⟨c, ha c hc⟩ (h1 c hc) (by simpa using h3 c hc)⟩
  · rintro ⟨h0, h1⟩
    refine ⟨⟨List.length_pos_iff.mpr h0, fun c hc => (lc_alpha ⟨c, ha c hc⟩ (h1 c hc)).1⟩, ?_, fun c hc => by have := (lc_alpha ⟨c, ha c hc⟩ (h1 c hc)).2.2; simpa using this⟩
    obtain ⟨c, hc⟩ := List.exists_mem_of_ne_nil _ h0
    exact ⟨c, hc, (lc_alpha ⟨c, ha c hc⟩ (h1 c hc)).2.1⟩
/-- a digit from 0 to 7 -/
def dg (c : Nat) : Bool := decide (c ∈ (Str.ofString "01234567").cps.toList)
def digs (s : Str) : Bool := decide (s.length = 3) && (tl s).all dg
def digB : PyData → Bool | .str s => digs s | _ => false
theorem dg_int : ∀ c : Fin 128, dg c.1 = true → ∃ n : Fin 8, PySem.intText? ⟨#[c.1]⟩ = some ((n.1 : Nat) : Int) := by decide +kernel
theorem dg_lt {c : Nat} (h : dg c = true) : c < 128 := by
  have : (Str.ofString "01234567").cps.toList.all (fun c => decide (c < 128)) = true := by decide +kernel
  exact of_decide_eq_true (List.all_eq_true.mp this c (of_decide_eq_true h))
section
variable {P : Program} {w : World} {K : PySem.W.Frag} {mg : Str → Option Value} {base : Heap} {A : Ads}
set_option pp.maxSteps 120
/-- a user's name -/
def Us (s : Str) : Prop := Nm s ∧ s ≠ Str.ofString "root"
def Uss (xs : List Str) : Prop := ∀ x ∈ xs, Us x
/-- no name -/
def nmB : PyData → Bool
  | .str s => nm s
  | _ => false
def ascB : PyData → Bool
  | .str s => (tl s).all fun c => decide (c < 128)
  | _ => true
theorem ascB_of {s : Str} (h : ascB (.str s) = true) : Asc s := fun c hc => of_decide_eq_true (List.all_eq_true.mp h c hc)
theorem okB_len {s : Str} (h : okB (.str s) = true) : s.length ≤ 200 := by
  have := (okB_all h).2.2.2.1
  simp only [PyData.weight] at this
  have e : s.length = s.cps.size := rfl
  omega
theorem ok_is_name (T : Txt w K mg A) : FnOk P w K mg base CX0 1 A.f_is_name A.d_is_name ["value"] (fun vs H Q _ => ∃ v, vs = [v] ∧ ((∃ s, v = .str s ∧ Nm s ∧ Q (.bl true) H) ∨ ∃ e, Odd H v e ∧ nmB e = false ∧ ascB e = true ∧ Q (.bl false) H)) := by
  refine T.F_is_name.ok sc_is_name (fun vs H Q E h => ?_) (fun cdv A_ outer s_ H vs Q E hr h => ?_)
  · obtain ⟨v, rfl, _⟩ := h
    rfl
  · obtain ⟨v, rfl, h⟩ := h
    refine ⟨_, (pss_cons (ps_if (PW.pt (pw_or (pt_not (pt_val (pe_callB call_isi (by rfl) T.b_isinstance (by decide +kernel) (pa_cons (pv 0) (pa_cons (pe_bltn (v := .ty "str") rfl T.b_str (by decide +kernel) rfl) pa_nil))))) (pw_or1 (pt_cmpR op_gt (pe_callB call_len_str (by rfl) T.b_len PySem.boot_len (pa_cons (pv 0) pa_nil)) (pe_gc rfl T.c_LONGEST_NAME) (nomark _))))) (pss_one (ps_ret pe_bl)) pss_nil)
  (pss_one (ps_ret (pe_and (pe_bm0 PySem.F.plainAttrs_str PySem.F.slot_str_isascii PySem.F.type_str_isascii mt_isascii (pv 0)) (pe_and (pe_bm0 PySem.F.plainAttrs_str PySem.F.slot_str_isalpha PySem.F.type_str_isalpha mt_isalpha (pv 0)) (pe_one (pe_bm0 PySem.F.plainAttrs_str PySem.F.slot_str_islower PySem.F.type_str_islower mt_islower (pv 0)))))))), ?_⟩
    have two : (∃ s b, v = .str s ∧ s.length ≤ 200 ∧ Asc s ∧ nm s = b ∧ Q (.bl b) H) ∨ ∃ t, TyX K H v (.type t) ∧ kitB t "str" = some false ∧ Q (.bl false) H := by
      rcases h with ⟨s, ev, n, q⟩ | ⟨e, he, hn, ha, q⟩
      · have l0 := n.l0
        have l1 := n.l1
        refine .inl ⟨s, true, ev, by omega, n.asc, ?_, q⟩
        unfold nm
        rw [Bool.and_eq_true, decide_eq_true_eq, List.all_eq_true]
        exact ⟨⟨fun e => by rw [e] at l0; exact absurd l0 (by decide +kernel), l1⟩, n.lo⟩
      · have hk := kit_str e
        have ty : TyX K H v (.type (tyN e)) := he.ty
        obtain ⟨hs, hB⟩ := id he
        cases hs with
        | str s => exact .inl ⟨s, false, rfl, okB_len hB, ascB_of ha, hn, q⟩
        | _ => exact .inr ⟨_, ty, hk, q⟩
    rcases two with ⟨s, b, rfl, hl, ha, hb, q⟩ | ⟨t, ty, kt, q⟩
    · have hz : s.length ≤ sizeLine := size_le (by omega)
      have en := name_eq ha
      have ea := isascii_asc ha
      walk_at "rd"
      refine ifD (fun c => ?_) (fun c => ?_)
      · walk_at "rd"
        rw [← hb, show nm s = false by unfold nm; rw [decide_eq_false (fun h => by have := h.2; omega)]; rfl] at q
        exact q
      · walk_at "rd"
        have hn : nm s = (Txt.isalpha s && Txt.islower s) := by
          rw [en]
          unfold nm
          by_cases h : s = Str.ofString ""
          · rw [decide_eq_false (fun z => z.1 h), decide_eq_false (fun z => z h)]
          · rw [decide_eq_true ⟨h, by omega⟩, decide_eq_true h]
        rw [← hb, hn] at q
        refine ifT ea ?_
        walk_at "rd"
        refine ifB (fun c1 => ?_) (fun c1 => ?_)
        · rw [c1] at q
          walk_at "rd"
          exact q
        · rw [c1] at q
          exact q
    · walk_at "rd"
      refine ⟨_, _, _, _, _, rfl, .ty _, ty, kit_ty kt, ?_⟩
      walk_at "rd"
      exact q
theorem ok_is_user_name (T : Txt w K mg A) : FnOk P w K mg base CX0 2 A.f_is_user_name A.d_is_user_name ["value"] (fun vs H Q _ => ∃ s, vs = [.str s] ∧ Us s ∧ Q (.bl true) H) := by
  refine T.F_is_user_name.ok sc_is_user_name (fun vs H Q E h => ?_) (fun cdv A_ outer s_ H vs Q E hr h => ?_)
  · obtain ⟨s, rfl, _⟩ := h
    rfl
  · obtain ⟨s, rfl, n, q⟩ := h
    refine ⟨_, (pss_one (ps_ret (pe_and (pe_call (ok_is_name T) (hr.mono (by decide)) (by rfl) T.g_is_name T.F_is_name.kp T.B_is_name .nil pass0 (pa_cons (pv 0) pa_nil)) (pe_one (pe_cmpR op_ne (pv 0) pe_str (nomark _)))))), ?_⟩
    walk_at "rd"
    refine .inl ⟨_, rfl, n.1, ?_⟩
    refine ⟨_, rfl, ?_⟩
    refine ifT rfl ?_
    walk_at "rd"
    show Q (.bl (!decide (V.str s = V.str (Str.ofString "root")))) H
    rw [decide_eq_false (fun h => n.2 (V.str.inj h))]
    exact q
theorem ok_is_digits (T : Txt w K mg A) : FnOk P w K mg base CX0 1 A.f_is_digits A.d_is_digits ["value"] (fun vs H Q _ => ∃ v e, vs = [v] ∧ Odd H v e ∧ ascB e = true ∧ ∀ H', Keep [] H H' → Q (.bl (digB e)) H') := by
  refine T.F_is_digits.ok sc_is_digits (fun vs H Q E h => ?_) (fun cdv A_ outer s_ H vs Q E hr h => ?_)
  · obtain ⟨v, e, rfl, _⟩ := h
    rfl
  · obtain ⟨v, e, rfl, he, ha, q⟩ := h
    have W : Ow H [] H [] := Ow.start0
    refine ⟨_, (pss_one (ps_ret (pe_and (pe_callB call_isi (by rfl) T.b_isinstance (by decide +kernel) (pa_cons (pv 0) (pa_cons (pe_bltn (v := .ty "str") rfl T.b_str (by decide +kernel) rfl) pa_nil))) (pe_and (pe_cmpR op_eq (pe_callB call_len_str (by rfl) T.b_len PySem.boot_len (pa_cons (pv 0) pa_nil)) pe_int (nomark _)) (pe_one (pe_callB (cr_all rfl) (by rfl) T.b_all (by decide +kernel) (pa_cons (pe_lc (own := [("digit", 1)]) (g := gName 1) rfl sc_is_digits.nd (pi_str (pv 0)) (blkOk_by (own := [("digit", 1)]) (N := N_is_digits) (sc := defScope s_is_digits) (by decide +kernel)) (fun _ _ _ _ _ => pg_name (i := 1) sc_is_digits.nd rfl (Or.inl rfl)) (fun _ _ _ _ _ => pts_nil) (fun _ _ _ _ _ => (pe_cmpR op_in_sign (pv 1) pe_str rfl))) pa_nil))))))), ?_⟩
    have hk := kit_str e
    have ty : TyX K H v (.type (tyN e)) := he.ty
    obtain ⟨hs, hB⟩ := id he
    cases hs with
    | str s =>
      have hl := okB_len hB
      have hlen := len_tl s
      have q : ∀ H', Keep [] H H' → Q (.bl (digs s)) H' := q
      unfold digs at q
      walk_at "rd"
      refine ifQ (p := s.length = 3) (decide_eq_decide.mpr ⟨fun h => by have := V.int.inj h; omega, fun h => by rw [h]; rfl⟩) (fun h3 => ?_) (fun h3 => ?_)
      · rw [decide_eq_true h3, Bool.true_and] at q
        walk_at "rd"
        intro D hD
        refine lc_str (s := s) (fun pre H' => Ow H [] H' [(D, .lst ((pre.map dg).map V.bl))]) (W.new hD) ?_ ?_
        · rintro pre d post H8 e8 W8
          have hpre : pre.length ≤ 3 := by
            have h2 : pre.length ≤ (tl s).length := by rw [e8, List.length_append]; omega
            omega
          walk_at "rd"
          refine ⟨_, W8.get 0 rfl, size_ok (by rw [List.length_map, List.length_map]; omega), ?_⟩
          rw [List.map_append, List.map_append]
          exact W8.set 0 rfl
        · intro H9 W9
          refine ⟨_, _, rfl, W9.sq 0 rfl, ?_⟩
          rw [List.all_map]
          exact q H9 W9.keep
      · rw [decide_eq_false h3, Bool.false_and] at q
        exact q H Keep.refl
    | _ =>
      walk_at "rd"
      first
        | exact q H Keep.refl
        | (refine ⟨_, _, _, _, _, rfl, .ty _, ty, kit_ty hk, ?_⟩
           walk_at "rd"
           exact q H Keep.refl)
theorem ok_take (T : Txt w K mg A) : FnOk P w K mg base CX0 1 A.f_take A.d_take ["_law_bag_here", "_law_count"] spTake := by
  refine T.F_take.ok sc_take (fun vs H Q E h => ?_) (fun cdv A_ outer s H vs Q E hr h => ?_)
  · obtain ⟨b, k, n, x, y, z, rfl, _⟩ := h
    rfl
  · obtain ⟨b, k, n, x, y, z, rfl, hb, ok, hn, k0, k1, q⟩ := h
    have W := Ow.start1 hb
    have y0 := ok.y0; have y1 := ok.y1; have z0 := ok.z0; have z1 := ok.z1
    refine ⟨_, (pss_cons (ps_if (pt_cmpR op_gt (pe_ix ix_list (pv 0) pe_int (fun _ _ => rfl)) pe_int (nomark _)) (pss_cons (ps_set (i := 2) sc_take.nd rfl (.inl rfl) (pe_op op_mod (pe_ix ix_list (pv 0) pe_int (fun _ _ => rfl)) (pv 1)))
  (pss_cons (ps_asg (pe_op op_fdiv (pe_ix ix_list (pv 0) pe_int (fun _ _ => rfl)) (pv 1)) (pg_sub (pv 0) pe_int set_listN))
  (pss_one (ps_ret (pv 2))))) pss_nil)
  (pss_cons (ps_asg (pe_op op_add (pe_ix ix_list (pv 0) pe_int (fun _ _ => rfl)) pe_int) (pg_sub (pv 0) pe_int set_listN))
  (pss_cons (ps_set (i := 3) sc_take.nd rfl (.inl rfl) (pe_op op_mod (pe_op op_pow (pe_op op_add (pe_op op_add (pe_ix ix_list (pv 0) pe_int (fun _ _ => rfl)) (pe_op op_mul pe_int (pe_ix ix_list (pv 0) pe_int (fun _ _ => rfl)))) pe_int) pe_int) pe_int))
  (pss_cons (ps_set (i := 3) sc_take.nd rfl (.inl rfl) (pe_op op_mod (pe_op op_pow (pe_op op_add (pv 3) (pe_op op_mul pe_int (pe_ix ix_list (pv 0) pe_int (fun _ _ => rfl)))) pe_int) pe_int))
  (pss_one (ps_ret (pe_op op_mod (pe_op op_fdiv (pv 3) pe_int) (pv 1)))))))), ?_⟩
    walk_at "rd"
    refine ite2 (fun c => ?_) (fun c => ?_)
    · have c' : 0 < x := of_decide_eq_true c
      walk_at "rd"
      rename_i H1 kp hp W1
      exact q _ (x / k) y z H1 (Int.emod_nonneg _ (by omega)) (Int.emod_lt_of_pos _ k0) ⟨Int.ediv_nonneg ok.x0 (by omega), y0, y1, z0, by omega⟩ kp hp
    · walk_at "rd"
      rename_i H1 kp hp W1
      exact q _ x y (z + 1) H1 (Int.emod_nonneg _ (by omega)) (Int.emod_lt_of_pos _ k0) ⟨ok.x0, y0, y1, by omega, by omega⟩ kp hp
def spCell (K : PySem.W.Frag) : Sp := fun vs H Q _ => ∃ (a : Addr) (ns : List Int) (k : Int), vs = [.ref a, .int k] ∧ SqL K H a (ns.map V.int) ∧ 0 ≤ k ∧ k < 1000 ∧ ∀ n, Q (.int n) H
theorem ok_cell (T : Txt w K mg A) : FnOk P w K mg base CX0 1 A.f_cell A.d_cell ["_law_script", "_law_k"] (spCell K) := by
  refine T.F_cell.ok sc_cell (fun vs H Q E h => ?_) (fun cdv A_ outer s H vs Q E hr h => ?_)
  · obtain ⟨a, ns, k, rfl, _⟩ := h
    rfl
  · obtain ⟨a, ns, k, rfl, hS, h0, hk, q⟩ := h
    obtain ⟨j, rfl⟩ := Int.eq_ofNat_of_zero_le h0
    refine ⟨_, (pss_cons (ps_if (pt_cmpR op_lt (pv 1) (pe_callB call_len_seq (by rfl) T.b_len PySem.boot_len (pa_cons (pv 0) pa_nil)) (nomark _)) (pss_one (ps_ret (pe_ix ix_list (pv 0) (pv 1) (fun _ _ => rfl)))) pss_nil)
  (pss_one (ps_ret (pe_op op_add (pe_op op_mul pe_int (pv 1)) pe_int)))), ?_⟩
    walk_at "rd"
    refine ifD (fun c => ?_) (fun c => ?_)
    · have c2 : j < ns.length := by rw [List.length_map] at c; omega
      refine ⟨_, rfl, _, rfl, _, _, _, .int ns[j], rfl, rfl, hS, atI_nat (by rw [List.getElem?_map, List.getElem?_eq_getElem c2]; rfl), q _⟩
    · walk_at "rd"
      exact q _
def spBag : Sp := fun vs H Q _ => ∃ n : Int, vs = [.int n] ∧ ∀ x y z, BagOk 0 x y z → NewO (bagO x y z) Q H
theorem ok_bag (T : Txt w K mg A) : FnOk P w K mg base CX0 1 A.f_bag A.d_bag ["_law_number"] spBag := by
  refine T.F_bag.ok sc_bag (fun vs H Q E h => ?_) (fun cdv A_ outer s H vs Q E hr h => ?_)
  · obtain ⟨n, rfl, _⟩ := h
    rfl
  · obtain ⟨n, rfl, q⟩ := h
    have W : Ow H [] H [] := Ow.start0
    refine ⟨_, (pss_one (ps_ret (pe_lstS (pa_cons (pe_callB (call_max2 rfl) (by rfl) T.b_max (by decide +kernel) (pa_cons pe_int (pa_cons (pe_op op_sub (pv 0) (pe_op op_pow pe_int pe_int)) pa_nil))) (pa_cons (pe_op op_mod (pv 0) pe_int) (pa_cons pe_int pa_nil)))))), ?_⟩
    have q' := q (if n - 10 ^ 18 > 0 then n - 10 ^ 18 else 0) (n % 2147483629) 0 ⟨by split <;> omega, Int.emod_nonneg _ (by decide), Int.lt_trans (Int.emod_lt_of_pos _ (by decide)) (by decide), by omega, by omega⟩
    walk_at "rd"
    rename_i p H1 np sp kp hp W1
    exact q'.to p H1 np kp hp
end
end K51
namespace K51
open PySem PySem.Spec PyProof.Rows L2 FR TL
open C8 (pss_cut pe_gc)
open StX (pe_callS2 pa_star)
section
variable {P : Program} {w : World} {K : PySem.W.Frag} {mg : Str → Option Value} {base : Heap} {A : Ads}
set_option pp.maxSteps 120
/-- the letters of a digit -/
def lw (d : Int) : Str := if d = 0 then "" else if d = 1 then "x" else if d = 2 then "w" else if d = 3 then "wx" else if d = 4 then "r" else if d = 5 then "rx" else if d = 6 then "rw" else "rwx"
def bv (k : Str) : Int := if k = "r" then 4 else if k = "w" then 2 else 1
def bit (d : Int) (k : Str) : Bool := Builtin.bitAnd d (bv k) != 0
def keysL : List Str := ["r", "w", "x"]
theorem eight {F : Int → Prop} (h : F 0 ∧ F 1 ∧ F 2 ∧ F 3 ∧ F 4 ∧ F 5 ∧ F 6 ∧ F 7) {d : Int} (d0 : 0 ≤ d) (d1 : d ≤ 7) : F d := by
  have : d = 0 ∨ d = 1 ∨ d = 2 ∨ d = 3 ∨ d = 4 ∨ d = 5 ∨ d = 6 ∨ d = 7 := by omega
  obtain ⟨a0, a1, a2, a3, a4, a5, a6, a7⟩ := h
  rcases this with rfl | rfl | rfl | rfl | rfl | rfl | rfl | rfl <;> assumption
/-- the texts of unlike letters, with their digits -/
def goodT : List (Str × Int) := [("", 0), ("x", 1), ("w", 2), ("wx", 3), ("xw", 3), ("r", 4), ("rx", 5), ("xr", 5), ("rw", 6), ("wr", 6), ("rwx", 7), ("rxw", 7), ("wrx", 7), ("wxr", 7), ("xrw", 7), ("xwr", 7)]
theorem dg_at (T : Txt w K mg A) {t : Str} {d : Int} (h : (t, d) ∈ goodT) : KDct K w A.K_DIGITS t (.int d) := by
  simp only [goodT, List.mem_cons, List.not_mem_nil, or_false, Prod.mk.injEq] at h
  rcases h with ⟨rfl, rfl⟩ | ⟨rfl, rfl⟩ | ⟨rfl, rfl⟩ | ⟨rfl, rfl⟩ | ⟨rfl, rfl⟩ | ⟨rfl, rfl⟩ | ⟨rfl, rfl⟩ | ⟨rfl, rfl⟩ | ⟨rfl, rfl⟩ | ⟨rfl, rfl⟩ | ⟨rfl, rfl⟩ | ⟨rfl, rfl⟩ | ⟨rfl, rfl⟩ | ⟨rfl, rfl⟩ | ⟨rfl, rfl⟩ | ⟨rfl, rfl⟩
  · exact T.at_DIGITS_
  · exact T.at_DIGITS_x
  · exact T.at_DIGITS_w
  · exact T.at_DIGITS_wx
  · exact T.at_DIGITS_xw
  · exact T.at_DIGITS_r
  · exact T.at_DIGITS_rx
  · exact T.at_DIGITS_xr
  · exact T.at_DIGITS_rw
  · exact T.at_DIGITS_wr
  · exact T.at_DIGITS_rwx
  · exact T.at_DIGITS_rxw
  · exact T.at_DIGITS_wrx
  · exact T.at_DIGITS_wxr
  · exact T.at_DIGITS_xrw
  · exact T.at_DIGITS_xwr
theorem dg_in (T : Txt w K mg A) {t : Str} {d : Int} (h : (t, d) ∈ goodT) : ∃ u, PySem.W.nsIn K A.K_DIGITS t = some (some u) := by
  obtain ⟨_, _, u, _, _, hu, _⟩ := dg_at T h
  exact ⟨u, hu⟩
def wordsL : List V := [.str "", .str "x", .str "w", .str "wx", .str "r", .str "rx", .str "rw", .str "rwx"]
theorem wd_at {d : Int} (d0 : 0 ≤ d) (d1 : d ≤ 7) : atI wordsL d = some (.str (lw d)) := by
  have : d = 0 ∨ d = 1 ∨ d = 2 ∨ d = 3 ∨ d = 4 ∨ d = 5 ∨ d = 6 ∨ d = 7 := by omega
  rcases this with rfl | rfl | rfl | rfl | rfl | rfl | rfl | rfl <;> rfl
theorem wd_sq (T : Txt w K mg A) (H : Hp) : SqT K H A.K_WORDS wordsL := .inr T.tu_WORDS
theorem lw_good {d : Int} (d0 : 0 ≤ d) (d1 : d ≤ 7) : (lw d, d) ∈ goodT := eight (F := fun d => (lw d, d) ∈ goodT) (by decide +kernel) d0 d1
theorem good_in {t : Str} {d : Int} (h : (t, d) ∈ goodT) : 0 ≤ d ∧ d ≤ 7 := by
  have : goodT.all (fun p => decide (0 ≤ p.2) && decide (p.2 ≤ 7)) = true := by decide +kernel
  simpa using List.all_eq_true.mp this _ h
/-- a rights object of this digit -/
def RgO (A : Ads) (dx : Addr) (d : Int) : HO := .ins A.C_Rights dx [("_digit", .int d)]
def IsR (A : Ads) (H : Hp) (v : V) (d : Int) : Prop := ∃ a dx, v = .ref a ∧ H a = some (RgO A dx d) ∧ 0 ≤ d ∧ d ≤ 7
def spDig (A : Ads) : Sp := fun vs H Q _ => ∃ v d, vs = [v] ∧ IsR A H v d ∧ Q (.int d) H
theorem ok_Rights_digit (T : Txt w K mg A) : FnOk P w K mg base CX0 1 A.f_Rights_digit A.d_Rights_digit ["self"] (spDig A) := by
  refine T.F_Rights_digit.ok sc_Rights_digit (fun vs H Q E h => ?_) (fun cdv A_ outer s H vs Q E hr h => ?_)
  · obtain ⟨v, d, rfl, _⟩ := h
    rfl
  · obtain ⟨_, d, rfl, ⟨a, dx, rfl, ha, d0, d1⟩, q⟩ := h
    refine ⟨_, (pss_one (ps_ret (pe_fld (pv 0) rfl))), ?_⟩
    exact ⟨_, rfl, a, _, dx, _, _, rfl, ha, T.cl_Rights, T.na_Rights__digit, rfl, q⟩
theorem ok__digit_of (T : Txt w K mg A) : FnOk P w K mg base CX0 3 A.f__digit_of A.d__digit_of ["value"] (spDig A) := by
  refine T.F__digit_of.ok sc__digit_of (fun vs H Q E h => ?_) (fun cdv A_ outer s H vs Q E hr h => ?_)
  · obtain ⟨v, d, rfl, _⟩ := h
    rfl
  · obtain ⟨_, d, rfl, ⟨a, dx, rfl, ha, d0, d1⟩, q⟩ := h
    refine ⟨_, (pss_cons (ps_if (pt_not (pt_val (pe_callB (C8.call_isC T.in_Rights) (by rfl) T.b_isinstance (by decide +kernel) (pa_cons (pv 0) (pa_cons (pe_gc rfl T.c_Rights) pa_nil))))) (pss_one ps_never) pss_nil)
  (pss_one (ps_ret (pe_prop (pv 0) T.cl_Rights T.pr_Rights_digit (ok_Rights_digit T) (hr.mono (by decide)) T.B_Rights_digit .nil pass0 rfl)))), ?_⟩
    walk_at "rd"
    refine ⟨a, dx, _, rfl, ha, _, rfl, ?_⟩
    refine ifF rfl ?_
    exact ⟨_, rfl, a, dx, _, rfl, ha, _, d, rfl, ⟨a, dx, rfl, ha, d0, d1⟩, q⟩
/-- the digit of a text of letters -/
def letD : PyData → Option Int
  | .str t => goodT.lookup t
  | _ => none
theorem letD_str {t : Str} {d : Int} (h : letD (.str t) = some d) : (t, d) ∈ goodT := PySem.mem_of_lookup h
theorem letD_of {t : Str} {d : Int} (h : (t, d) ∈ goodT) : letD (.str t) = some d := by
  have : goodT.all (fun p => goodT.lookup p.1 == some p.2) = true := by decide +kernel
  simpa [letD] using List.all_eq_true.mp this _ h
theorem letD_no {t : Str} (h : letD (.str t) = none) : t ∉ (["", "x", "w", "wx", "xw", "r", "rx", "xr", "rw", "wr", "rwx", "rxw", "wrx", "wxr", "xrw", "xwr"] : List Str) := by
  intro m
  have : (["", "x", "w", "wx", "xw", "r", "rx", "xr", "rw", "wr", "rwx", "rxw", "wrx", "wxr", "xrw", "xwr"] : List Str).all (fun t => (goodT.lookup t).isSome) = true := by decide +kernel
  have q := List.all_eq_true.mp this _ m
  rw [show goodT.lookup t = none from h] at q
  cases q
/-- what is a text of letters, and what is none -/
theorem ok__is_letters (T : Txt w K mg A) : FnOk P w K mg base CX0 1 A.f__is_letters A.d__is_letters ["value"] (fun vs H Q _ => ∃ v, vs = [v] ∧ ((∃ t d, v = .str t ∧ (t, d) ∈ goodT ∧ Q (.bl true) H) ∨ ∃ e, Odd H v e ∧ letD e = none ∧ Q (.bl false) H)) := by
  refine T.F__is_letters.ok sc__is_letters (fun vs H Q E h => ?_) (fun cdv A_ outer s H vs Q E hr h => ?_)
  · obtain ⟨v, rfl, _⟩ := h
    rfl
  · obtain ⟨v, rfl, ⟨t, d, rfl, g, q⟩ | ⟨e, he, hl, q⟩⟩ := h
    · refine ⟨_, (pss_one (ps_ret (pe_and (pe_callB call_isi (by rfl) T.b_isinstance (by decide +kernel) (pa_cons (pv 0) (pa_cons (pe_bltn (v := .ty "str") rfl T.b_str (by decide +kernel) rfl) pa_nil))) (pe_one (pe_cmpR (op_inW (K := K) (w := w) rfl rfl T.kd_DIGITS) (pv 0) (pe_gc rfl T.c_DIGITS) rfl))))), ?_⟩
      walk_at "rd"
      obtain ⟨u, hu⟩ := dg_in T g
      exact ⟨_, _, rfl, rfl, hu, q⟩
    · refine ⟨_, (pss_one (ps_ret (pe_and (pe_callB call_isi (by rfl) T.b_isinstance (by decide +kernel) (pa_cons (pv 0) (pa_cons (pe_bltn (v := .ty "str") rfl T.b_str (by decide +kernel) rfl) pa_nil))) (pe_one (pe_cmpR (op_inW (K := K) (w := w) rfl rfl T.kd_DIGITS) (pv 0) (pe_gc rfl T.c_DIGITS) rfl))))), ?_⟩
      have hk := kit_str e
      have ty : TyX K H v (.type (tyN e)) := he.ty
      walk_at "rd"
      refine ⟨_, _, _, _, _, rfl, .ty _, ty, kit_ty hk, ?_⟩
      obtain ⟨hs, _⟩ := he
      cases hs with
      | str s =>
        have hr1 := T.ms_DIGITS s (letD_no hl)
        walk_at "rd"
        exact ⟨_, _, rfl, rfl, hr1, q⟩
      | _ => walk_at "rd"; exact q
def spInitR (A : Ads) : Sp := fun vs H Q _ => ∃ x dx t d, vs = [.ref x, .str t] ∧ H x = some (.ins A.C_Rights dx []) ∧ (t, d) ∈ goodT ∧ ∀ H1, Keep [x] H H1 → H1 x = some (RgO A dx d) → Q .non H1
theorem ok_Rights___init__ (T : Txt w K mg A) : FnOk P w K mg base CX0 2 A.f_Rights___init__ A.d_Rights___init__ ["self", "letters"] (spInitR A) := by
  refine (T.F_Rights___init__.ok (CX := CX0) sc_Rights___init__ (fun vs H Q E h => ?_) (fun cdv A_ outer s H vs Q E hr h => ?_))
  · obtain ⟨x, dx, t, d, rfl, _⟩ := h
    rfl
  · obtain ⟨x, dx, t, d, rfl, hx, g, q⟩ := h
    refine ⟨_, (pss_cons (ps_if (pt_not (pt_val (pe_call (ok__is_letters T) (hr.mono (by decide)) (by rfl) T.g__is_letters T.F__is_letters.kp T.B__is_letters .nil pass0 (pa_cons (pv 1) pa_nil)))) (pss_one ps_never) pss_nil)
  (pss_one (ps_fld (pv 0) (pe_ix (ix_kdictK (K := K) (w := w) rfl rfl) (pe_gc rfl T.c_DIGITS) (pv 1) (fun _ _ => rfl)) rfl))), ?_⟩
    walk_at "rd"
    refine .inl ⟨t, d, rfl, g, ?_⟩
    walk_at "rd"
    refine ⟨_, _, _, rfl, rfl, dg_at T g, ?_⟩
    refine ⟨_, rfl, x, _, dx, _, rfl, hx, T.cl_Rights, T.na_Rights__digit, by decide, ?_⟩
    exact q _ keep_upd upd_same
theorem bd_Rights___init___1 (T : Txt w K mg A) : Vals [] [] ∧ Binds K A.d_Rights___init__ ["self", "letters"] [] := by
  obtain ⟨ds, h1, h2⟩ := T.F_Rights___init__.binds1 (ps := ["self", "letters"]) 2 1 (by simp) rfl fun Tt kV doc pm an cdv ct us its h1 h2 => match us, its, h1, h2 with
    | [_, _], [_], _, _ => ⟨_, rfl, rfl⟩
  cases h1
  exact ⟨.nil, h2⟩
theorem bd_Rights___init___0 (T : Txt w K mg A) : ∃ ds, Vals [.str ""] ds ∧ Binds K A.d_Rights___init__ ["self", "letters"] ds := by
  obtain ⟨ds, h1, h2⟩ := T.F_Rights___init__.binds1 (ps := ["self", "letters"]) 1 0 (by simp) rfl fun Tt kV doc pm an cdv ct us its h1 h2 => match us, its, h1, h2 with
    | [_], [_], _, _ => ⟨_, rfl, rfl⟩
  exact ⟨ds, h1, h2⟩
/-- a new rights object of this digit -/
def NewR (A : Ads) (d : Int) (Q : VK) (H : Hp) : Prop := ∀ (x dx : Addr) (H1 : Hp), H x = none → H dx = none → Keep [] H H1 → H1 x = some (RgO A dx d) → Q (.ref x) H1
def spBin (A : Ads) (f : Int → Int → Int) : Sp := fun vs H Q _ => ∃ v d v' d', vs = [v, v'] ∧ IsR A H v d ∧ IsR A H v' d' ∧ NewR A (f d d') Q H
theorem keep_of_new {H H1 H2 : Hp} {x dx : Addr} {o o' : HO} (k1 : Keep [] H H1) (hx : H1 x = none) (hdx : H1 dx = none) (k2 : Keep [x] (upd (upd H1 dx o) x o') H2) : Keep [] H H2 := fun b u e _ => by
  have e1 := k1 b u e (by simp)
  have n1 : b ≠ dx := ne_of_none e1 hdx
  have n2 : b ≠ x := ne_of_none e1 hx
  refine k2 b u ?_ (by simpa using n2)
  rw [upd_ne n2, upd_ne n1]
  exact e1
theorem or_in {d d' : Int} (d0 : 0 ≤ d) (d1 : d ≤ 7) (e0 : 0 ≤ d') (e1 : d' ≤ 7) : 0 ≤ Builtin.bitOr d d' ∧ Builtin.bitOr d d' ≤ 7 :=
  eight (F := fun d => ∀ d', 0 ≤ d' → d' ≤ 7 → 0 ≤ Builtin.bitOr d d' ∧ Builtin.bitOr d d' ≤ 7) (by
    refine ⟨?_, ?_, ?_, ?_, ?_, ?_, ?_, ?_⟩ <;> exact fun d' a b => eight (F := fun e => 0 ≤ Builtin.bitOr _ e ∧ Builtin.bitOr _ e ≤ 7) (by decide +kernel) a b) d0 d1 d' e0 e1
theorem ok_Rights___or__ (T : Txt w K mg A) : FnOk P w K mg base CX0 5 A.f_Rights___or__ A.d_Rights___or__ ["self", "other"] (spBin A Builtin.bitOr) := by
  refine T.F_Rights___or__.ok sc_Rights___or__ (fun vs H Q E h => ?_) (fun cdv A_ outer s H vs Q E hr h => ?_)
  · obtain ⟨v, d, v', d', rfl, _⟩ := h
    rfl
  · obtain ⟨_, d, _, d', rfl, ⟨a, dx, rfl, ha, d0, d1⟩, ⟨a', dx', rfl, ha', d0', d1'⟩, q⟩ := h
    refine ⟨_, (pss_one (ps_ret (pe_make T.mk_Rights (ok_Rights___init__ T) (hr.mono (by decide)) (by rfl) T.gC_Rights (bd_Rights___init___1 T).2 (bd_Rights___init___1 T).1 pass0 (pa_cons (pe_ix ix_tup (pe_gc rfl T.c_WORDS) (pe_op op_or (pe_fld (pv 0) rfl) (pe_call (ok__digit_of T) (hr.mono (by decide)) (by rfl) T.g__digit_of T.F__digit_of.kp T.B__digit_of .nil pass0 (pa_cons (pv 1) pa_nil))) (fun _ _ => rfl)) pa_nil)))), ?_⟩
    refine ⟨_, rfl, a, _, dx, _, _, rfl, ha, T.cl_Rights, T.na_Rights__digit, rfl, ?_⟩
    walk_at "rd"
    refine ⟨_, d', rfl, ⟨a', dx', rfl, ha', d0', d1'⟩, ?_⟩
    refine ⟨_, _, rfl, rfl, ?_⟩
    obtain ⟨f0, f1⟩ := or_in d0 d1 d0' d1'
    refine ⟨_, _, _, _, rfl, rfl, wd_sq T H, wd_at f0 f1, ?_⟩
    intro x dy hx hdy hne
    refine ⟨x, dy, _, _, rfl, upd_same, lw_good f0 f1, fun H2 k2 h2 => ⟨rfl, ?_⟩⟩
    exact q x dy H2 hx hdy (keep_of_new Keep.refl hx hdy k2) h2
/-- what stands for rights of this digit -/
def Part (A : Ads) (H : Hp) (v : V) (d : Int) : Prop := IsR A H v d ∨ ∃ t, v = .str t ∧ (t, d) ∈ goodT
theorem IsR.keep {H H' : Hp} {v : V} {d : Int} (h : IsR A H v d) (k : Keep [] H H') : IsR A H' v d := by
  obtain ⟨a, dx, rfl, ha, r⟩ := h
  exact ⟨a, dx, rfl, k _ _ ha (by simp), r⟩
theorem Part.keep {H H' : Hp} {v : V} {d : Int} (h : Part A H v d) (k : Keep [] H H') : Part A H' v d := h.imp (fun z => IsR.keep z k) id
theorem Part.in_ {H : Hp} {v : V} {d : Int} (h : Part A H v d) : 0 ≤ d ∧ d ≤ 7 := by
  rcases h with ⟨a, dx, rfl, ha, d0, d1⟩ | ⟨t, rfl, g⟩
  · exact ⟨d0, d1⟩
  · exact good_in g
theorem ok_as_rights (T : Txt w K mg A) : FnOk P w K mg base CX0 4 A.f_as_rights A.d_as_rights ["value"] (fun vs H Q _ => ∃ v d, vs = [v] ∧ ((IsR A H v d ∧ Q v H) ∨ ∃ t, v = .str t ∧ (t, d) ∈ goodT ∧ NewR A d Q H)) := by
  refine T.F_as_rights.ok sc_as_rights (fun vs H Q E h => ?_) (fun cdv A_ outer s H vs Q E hr h => ?_)
  · obtain ⟨v, d, rfl, _⟩ := h
    rfl
  · obtain ⟨v, d, rfl, h⟩ := h
    refine ⟨_, (pss_one (ps_ret (pe_ifExp (pt_val (pe_callB (call_isA T.in_Rights) (by rfl) T.b_isinstance (by decide +kernel) (pa_cons (pv 0) (pa_cons (pe_gc rfl T.c_Rights) pa_nil)))) (pv 0) (pe_make T.mk_Rights (ok_Rights___init__ T) (hr.mono (by decide)) (by rfl) T.gC_Rights (bd_Rights___init___1 T).2 (bd_Rights___init___1 T).1 pass0 (pa_cons (pv 0) pa_nil))))), ?_⟩
    rcases h with ⟨⟨a, dx, rfl, ha, d0, d1⟩, q⟩ | ⟨t, rfl, g, q⟩
    · walk_at "rd"
      refine .inl ⟨a, dx, _, rfl, ha, ?_⟩
      refine ⟨true, rfl, ?_⟩
      refine ifT rfl ?_
      exact ⟨_, rfl, q⟩
    · walk_at "rd"
      refine .inr ⟨_, _, _, _, _, rfl, .own _, .base (.str _), T.kt_Rights_str, ?_⟩
      refine ⟨false, rfl, ?_⟩
      refine ifF rfl ?_
      walk_at "rd"
      intro x dy hx hdy hne
      refine ⟨x, dy, _, _, rfl, upd_same, g, fun H2 k2 h2 => ⟨rfl, ?_⟩⟩
      exact q x dy H2 hx hdy (keep_of_new Keep.refl hx hdy k2) h2
/-- the letters of all together -/
def orAll (ds : List Int) : Int := ds.foldl Builtin.bitOr 0
theorem orAll_in : ∀ (ds : List Int), (∀ d ∈ ds, 0 ≤ d ∧ d ≤ 7) → ∀ a : Int, 0 ≤ a → a ≤ 7 → 0 ≤ ds.foldl Builtin.bitOr a ∧ ds.foldl Builtin.bitOr a ≤ 7
  | [], _, a, a0, a1 => ⟨a0, a1⟩
  | d :: r, h, a, a0, a1 => by
    obtain ⟨d0, d1⟩ := h d (by simp)
    obtain ⟨o0, o1⟩ := or_in a0 a1 d0 d1
    exact orAll_in r (fun e he => h e (by simp [he])) _ o0 o1
theorem bin_at {f : Int → Int → Int} {H : Hp} {r1 dr1 r2 dr2 : Addr} {d e : Int} {Q : VK} (h1 : H r1 = some (RgO A dr1 d)) (h2 : H r2 = some (RgO A dr2 e)) (d0 : 0 ≤ d) (d1 : d ≤ 7) (e0 : 0 ≤ e) (e1 : e ≤ 7) (q : NewR A (f d e) Q H) :
    rBinI A.C_Rights (fun vs H Q E => spBin A f (vs ++ []) H Q E) E0 (.ref r1) (.ref r2) H Q := ⟨r1, dr1, _, r2, dr2, _, rfl, rfl, h1, h2, _, d, _, e, rfl, ⟨r1, dr1, rfl, h1, d0, d1⟩, ⟨r2, dr2, rfl, h2, e0, e1⟩, q⟩
def spOf0 (A : Ads) : Sp := fun vs H Q _ => ∃ (t : Addr) (ps : List (V × Int)), vs = [.ref A.C_Rights, .ref t] ∧ H t = some (.tup (ps.map (·.1))) ∧ (∀ p ∈ ps, Part A H p.1 p.2) ∧ NewR A (orAll (ps.map (·.2))) Q H
def spOf (A : Ads) : Sp := fun vs H Q _ => ∃ (ps : List (V × Int)), vs = .ref A.C_Rights :: ps.map (·.1) ∧ ps.length ≤ 100 ∧ (∀ p ∈ ps, Part A H p.1 p.2) ∧ NewR A (orAll (ps.map (·.2))) Q H
theorem NewR.new {d : Int} {Q : VK} {H : Hp} {p : Addr} {o : HO} (q : NewR A d Q H) (np : H p = none) : NewR A d Q (upd H p o) := fun x dx H1 hx hdx k h => q x dx H1 ((keep_new np).free hx) ((keep_new np).free hdx) ((keep_new np).trans k) h
theorem ok_Rights_of (T : Txt w K mg A) : FnR P w K mg base CX0 6 A.f_Rights_of (spOf A) := by
  refine FnR.imp (okStar (ps := ["cls"]) (pv := "parts") (sp := spOf0 A) T.F_Rights_of sc_Rights_of (fun kV doc pm an cdv ct us rest hl => ?_) (fun cdv A_ outer s H vs Q E hr h => ?_)) fun vs H Q E h => ?_
  · exact StX.bind_star1 (B := fun us => bindArgs (PySem.W.fnOf "of" "Rights.of" (defArgs s_Rights_of) (defBody s_Rights_of) (defScope s_Rights_of) .none kV doc pm an cdv ct) ⟨us, []⟩) (fun a => rfl) (fun a r rs => rfl) us rest hl
  · obtain ⟨t, ps, rfl, ht, hp, q⟩ := h
    refine ⟨_, (pss_cons (ps_set (i := 2) sc_Rights_of.nd rfl (.inl rfl) (pe_makeL0 (pv 0) T.mk_Rights (ok_Rights___init__ T) (hr.mono (by decide)) (bd_Rights___init___0 T).choose_spec.2 (bd_Rights___init___0 T).choose_spec.1 pass0))
  (pss_cons (ps_for PassesOwn.never rfl (pi_tup (pv 1)) (pg_name (i := 3) sc_Rights_of.nd rfl (.inl rfl)) (pss_one (ps_set (i := 2) sc_Rights_of.nd rfl (.inl rfl) (pe_op (op_binI T.sf_Rights T.me_Rights___or__.at_ T.me_Rights___or__.fn ((ok_Rights___or__ T).raw T.B_Rights___or__ .nil) (hr.mono (by decide)) pass0) (pv 2) (pe_call (ok_as_rights T) (hr.mono (by decide)) (by rfl) T.g_as_rights T.F_as_rights.kp T.B_as_rights .nil pass0 (pa_cons (pv 3) pa_nil))))))
  (pss_one (ps_ret (pv 2))))), ?_⟩
    have W : Ow H [] H [] := Ow.start0
    walk_at "rd"
    refine ⟨rfl, ?_⟩
    intro r1 dr1 hr1 hdr1 hne1
    refine ⟨r1, dr1, _, _, rfl, upd_same, (show (Str.ofString "", 0) ∈ goodT by decide +kernel), fun H2 k2 h2 => ⟨rfl, ?_⟩⟩
    have K2 := keep_of_new Keep.refl hr1 hdr1 k2
    walk_at "rd"
    have ht2 := K2 _ _ ht (by simp)
    refine ⟨⟨_, .inl (.inl ht2)⟩, ?_⟩
    refine for_tu (a := t) (xs := ps.map (·.1)) (fun pre σ H' => ∃ r dr y, σ = [some (.ref A.C_Rights), some (.ref t), some (.ref r), y] ∧ Keep [] H H' ∧ H r = none ∧ H dr = none ∧ H' r = some (RgO A dr (orAll ((ps.take pre.length).map (·.2))))) ⟨r1, dr1, _, rfl, K2, hr1, hdr1, h2⟩ ?_ ?_ ?_
    · rintro pre post σ H3 e ⟨r, dr, y, rfl, k3, _⟩
      exact .inl (.inl (k3 _ _ ht (by simp)))
    · rintro pre v post σ H3 e ⟨r, dr, y, rfl, k3, hr0, hdr0, hr3⟩
      obtain ⟨z, hz, rfl⟩ : ∃ z, ps[pre.length]? = some z ∧ z.1 = v := by
        have h1 := congrArg (fun l => l[pre.length]?) e
        simp only [List.getElem?_append_right (Nat.le_refl _), Nat.sub_self, List.getElem?_cons_zero, List.getElem?_map] at h1
        cases hz : ps[pre.length]? with
        | none => rw [hz] at h1; cases h1
        | some z => rw [hz] at h1; exact ⟨z, rfl, Option.some.inj h1⟩
      have hzm := List.mem_of_getElem? hz
      have hzp := hp z hzm
      obtain ⟨z0, z1⟩ := Part.in_ hzp
      have ea : orAll ((ps.take (pre ++ [z.1]).length).map (·.2)) = Builtin.bitOr (orAll ((ps.take pre.length).map (·.2))) z.2 := by
        rw [List.length_append, List.length_singleton, List.take_add_one, hz]
        unfold orAll
        rw [List.map_append, List.foldl_append]
        rfl
      obtain ⟨o0, o1⟩ := orAll_in ((ps.take pre.length).map (·.2)) (fun d hd => by
        obtain ⟨y, hy, rfl⟩ := List.mem_map.mp hd
        exact Part.in_ (hp y (List.mem_of_mem_take hy))) 0 (by decide) (by decide)
      obtain ⟨zv, zd⟩ := z
      dsimp only at ea z0 z1 hzp
      have main : ∀ (v2 dv2 : Addr) (H4 : Hp) (F : VK), Keep [] H3 H4 → H4 v2 = some (RgO A dv2 zd) → (∀ (x dx : Addr) (H5 : Hp), Keep [] H H5 → H x = none → H dx = none → H5 x = some (RgO A dx (orAll ((ps.take (pre ++ [zv]).length).map (·.2)))) → F (.ref x) H5) →
          rBinI A.C_Rights (fun vs H Q E => spBin A Builtin.bitOr (vs ++ []) H Q E) E0 (.ref r) (.ref v2) H4 F := by
        intro v2 dv2 H4 F k4 hv4 f
        refine bin_at (k4 _ _ hr3 (by simp)) hv4 o0 o1 z0 z1 ?_
        intro x dx H5 hx hdx k5 h5
        have k34 : Keep [] H H4 := Keep.trans k3 k4
        refine f x dx H5 (k34.trans k5) (k34.free hx) (k34.free hdx) ?_
        rw [ea]
        exact h5
      walk_at "rd"
      rcases hzp with ⟨a, dx, rfl, ha, _⟩ | ⟨t', rfl, g⟩
      · have ha3 := k3 _ _ ha (by simp)
        refine ⟨_, zd, rfl, .inl ⟨⟨a, dx, rfl, ha3, z0, z1⟩, ?_⟩⟩
        refine main a dx H3 _ Keep.refl ha3 fun x dx' H5 k5 n1 n2 h5 => ?_
        exact ⟨x, dx', _, rfl, k5, n1, n2, h5⟩
      · refine ⟨_, zd, rfl, .inr ⟨t', rfl, g, ?_⟩⟩
        intro v2 dv2 H4 hv2 hdv2 k4 h4
        refine main v2 dv2 H4 _ k4 h4 fun x dx' H5 k5 n1 n2 h5 => ?_
        exact ⟨x, dx', _, rfl, k5, n1, n2, h5⟩
    · rintro σ H3 ⟨r, dr, y, rfl, k3, hr0, hdr0, hr3⟩
      walk_at "rd"
      refine q r dr H3 hr0 hdr0 k3 ?_
      rw [hr3, List.length_map, List.take_length]
  · obtain ⟨ps, rfl, hl, hp, q⟩ := h
    exact ⟨[.ref A.C_Rights], ps.map (·.1), rfl, rfl, size_le (by rw [List.length_map]; omega), fun p np => ⟨p, ps, rfl, upd_same, fun z hz => (hp z hz).keep (keep_new np), q.new np⟩⟩
theorem ok_is_integer (T : Txt w K mg A) : FnOk P w K mg base CX0 1 A.f_is_integer A.d_is_integer ["value", "low", "high"] (fun vs H Q _ => ∃ i lo hi : Int, vs = [.int i, .int lo, .int hi] ∧ lo ≤ i ∧ i ≤ hi ∧ Q (.bl true) H) := by
  refine T.F_is_integer.ok sc_is_integer (fun vs H Q E h => ?_) (fun cdv A_ outer s H vs Q E hr h => ?_)
  · obtain ⟨i, lo, hi, rfl, _⟩ := h
    rfl
  · obtain ⟨i, lo, hi, rfl, h0, h1, q⟩ := h
    refine ⟨_, (pss_one (ps_ret (pe_and (pe_callB call_isi (by rfl) T.b_isinstance (by decide +kernel) (pa_cons (pv 0) (pa_cons (pe_bltn (v := .ty "int") rfl T.b_int (by decide +kernel) rfl) pa_nil))) (pe_and (pe_not (pe_callB call_isi (by rfl) T.b_isinstance (by decide +kernel) (pa_cons (pv 0) (pa_cons (pe_bltn (v := .ty "bool") rfl T.b_bool (by decide +kernel) rfl) pa_nil)))) (pe_one (pe_chain op_le op_le (pv 1) (pv 0) (pv 2))))))), ?_⟩
    walk_at "rd"
    refine ifT (decide_eq_true h0) ?_
    refine ⟨_, rfl, ?_⟩
    refine ⟨_, _, rfl, rfl, ?_⟩
    show Q (V.bl (decide (i ≤ hi))) H
    rw [decide_eq_true h1]
    exact q
theorem ok_Rights_from_digit (T : Txt w K mg A) : FnOk P w K mg base CX0 4 A.f_Rights_from_digit A.d_Rights_from_digit ["cls", "digit"] (fun vs H Q _ => ∃ d : Int, vs = [.ref A.C_Rights, .int d] ∧ 0 ≤ d ∧ d ≤ 7 ∧ NewR A d Q H) := by
  refine T.F_Rights_from_digit.ok sc_Rights_from_digit (fun vs H Q E h => ?_) (fun cdv A_ outer s H vs Q E hr h => ?_)
  · obtain ⟨d, rfl, _⟩ := h
    rfl
  · obtain ⟨d, rfl, d0, d1, q⟩ := h
    refine ⟨_, (pss_cons (ps_if (pt_not (pt_val (pe_call (ok_is_integer T) (hr.mono (by decide)) (by rfl) T.g_is_integer T.F_is_integer.kp T.B_is_integer .nil pass0 (pa_cons (pv 1) (pa_cons pe_int (pa_cons (pe_gc rfl T.c_ALL_DIGIT) pa_nil)))))) (pss_one ps_never) pss_nil)
  (pss_one (ps_ret (pe_makeL (pv 0) T.mk_Rights (ok_Rights___init__ T) (hr.mono (by decide)) (bd_Rights___init___1 T).2 (bd_Rights___init___1 T).1 pass0 (pa_cons (pe_ix ix_tup (pe_gc rfl T.c_WORDS) (pv 1) (fun _ _ => rfl)) pa_nil))))), ?_⟩
    walk_at "rd"
    refine ⟨d, 0, 7, rfl, d0, d1, ?_⟩
    refine ⟨_, rfl, ?_⟩
    refine ifF rfl ?_
    refine ⟨rfl, ?_⟩
    refine ⟨_, rfl, _, _, _, _, rfl, rfl, wd_sq T H, wd_at d0 d1, ?_⟩
    intro x dy hx hdy hne
    refine ⟨x, dy, _, _, rfl, upd_same, lw_good d0 d1, fun H2 k2 h2 => ⟨rfl, ?_⟩⟩
    exact q x dy H2 hx hdy (keep_of_new Keep.refl hx hdy k2) h2
def spEq (A : Ads) : Sp := fun vs H Q _ => ∃ v d v' d', vs = [v, v'] ∧ IsR A H v d ∧ IsR A H v' d' ∧ Q (.bl (decide (d = d'))) H
theorem ok_Rights___eq__ (T : Txt w K mg A) : FnOk P w K mg base CX0 1 A.f_Rights___eq__ A.d_Rights___eq__ ["self", "other"] (spEq A) := by
  refine T.F_Rights___eq__.ok sc_Rights___eq__ (fun vs H Q E h => ?_) (fun cdv A_ outer s H vs Q E hr h => ?_)
  · obtain ⟨v, d, v', d', rfl, _⟩ := h
    rfl
  · obtain ⟨_, d, v', d', rfl, ⟨a, dx, rfl, ha, d0, d1⟩, ⟨a', dx', rfl, ha', d0', d1'⟩, q⟩ := h
    refine ⟨_, (pss_one (ps_ret (pe_and (pe_callB (C8.call_isC T.in_Rights) (by rfl) T.b_isinstance (by decide +kernel) (pa_cons (pv 1) (pa_cons (pe_gc rfl T.c_Rights) pa_nil))) (pe_one (pe_cmpR op_eq (pe_fld (pv 0) rfl) (pe_fld (pv 1) rfl) (nomark _)))))), ?_⟩
    walk_at "rd"
    refine ⟨a', dx', _, rfl, ha', ?_⟩
    refine ⟨true, rfl, ?_⟩
    rw [if_pos rfl]
    refine ⟨_, rfl, a, _, dx, _, _, rfl, ha, T.cl_Rights, T.na_Rights__digit, rfl, _, rfl, a', _, dx', _, _, rfl, ha', T.cl_Rights, T.na_Rights__digit, rfl, ?_⟩
    refine ⟨rfl, ?_⟩
    rw [show decide (V.int d = V.int d') = decide (d = d') from by simp]
    exact q
end
end K51
namespace K51
open PySem PySem.Spec PyProof.Rows L2 FR TL
open C8 (pss_cut pe_gc)
open StX (pe_callS2 pa_star)
/-! dicts from names to digits -/
abbrev Dm := List (Str × Int)
def dget (m : Dm) (u : Str) : Option Int := (m.find? fun e => decide (e.1 = u)).map (·.2)
def DV (R : V → Int → Prop) : List (L2.Key × V) → Dm → Prop := Paired fun kv e => kv.1 = Sum.inr e.1 ∧ R kv.2 e.2
theorem DV.imp {R S : V → Int → Prop} {kvs : List (L2.Key × V)} {m : Dm} (h : DV R kvs m) (f : ∀ x d, R x d → S x d) : DV S kvs m := Paired.mapP h fun _ _ ⟨e, r⟩ => ⟨e, f _ _ r⟩
theorem DV.len {R : V → Int → Prop} {kvs : List (L2.Key × V)} {m : Dm} (h : DV R kvs m) : kvs.length = m.length := Paired.length h
theorem DV.keys {R : V → Int → Prop} {kvs : List (L2.Key × V)} {m : Dm} (h : DV R kvs m) : kvs.map (·.1) = (m.map (·.1)).map Sum.inr := by
  unfold DV at h
  induction h with
  | nil => rfl
  | cons h t ih => rw [List.map_cons, List.map_cons, List.map_cons, ih, h.1]
theorem DV.val {R : V → Int → Prop} {kvs : List (L2.Key × V)} {m : Dm} (h : DV R kvs m) (u : Str) : (valV kvs (Sum.inr u) = none ∧ dget m u = none ∧ u ∉ m.map (·.1)) ∨ ∃ v d, valV kvs (Sum.inr u) = some v ∧ dget m u = some d ∧ R v d ∧ u ∈ m.map (·.1) := by
  unfold DV at h
  induction h with
  | nil => exact .inl ⟨rfl, rfl, by simp⟩
  | @cons kv e a b h t ih =>
    by_cases c : e.1 = u
    · refine .inr ⟨kv.2, e.2, valV_pos (by rw [h.1, c]), ?_, h.2, by simp [c]⟩
      unfold dget
      rw [List.find?_cons_of_pos (by simpa using c)]
      rfl
    · have e1 : valV (kv :: a) (Sum.inr u) = valV a (Sum.inr u) := valV_neg (by rw [h.1]; exact fun z => c (Sum.inr.inj z))
      have e2 : dget (e :: b) u = dget b u := by
        unfold dget
        rw [List.find?_cons_of_neg (by simpa using c)]
      rw [e1, e2]
      rcases ih with ⟨i1, i2, i3⟩ | ⟨v, d, i1, i2, i3, i4⟩
      · exact .inl ⟨i1, i2, by rw [List.map_cons, List.mem_cons, not_or]; exact ⟨fun z => c z.symm, i3⟩⟩
      · exact .inr ⟨v, d, i1, i2, i3, by rw [List.map_cons]; exact List.mem_cons_of_mem _ i4⟩
theorem DV.snoc {R : V → Int → Prop} {kvs : List (L2.Key × V)} {m : Dm} (h : DV R kvs m) {u : Str} {v : V} {d : Int} (r : R v d) (hu : u ∉ m.map (·.1)) : putK kvs (Sum.inr u) v = kvs ++ [(Sum.inr u, v)] ∧ DV R (kvs ++ [(Sum.inr u, v)]) (m ++ [(u, d)]) := by
  refine ⟨?_, ?_⟩
  · unfold putK
    rw [valV_any]
    rcases h.val u with ⟨e, _⟩ | ⟨_, _, _, _, _, c⟩
    · rw [e]; rfl
    · exact absurd c hu
  · clear hu
    unfold DV at h ⊢
    induction h with
    | nil => exact .cons ⟨rfl, r⟩ .nil
    | cons h t ih => exact .cons h ih
theorem dget_mem {m : Dm} {u : Str} {d : Int} (h : dget m u = some d) : (u, d) ∈ m := by
  unfold dget at h
  obtain ⟨e, h1, h2⟩ := Option.map_eq_some_iff.mp h
  have h3 := List.find?_some h1
  have : e = (u, d) := Prod.ext (of_decide_eq_true h3) h2
  rw [← this]
  exact List.mem_of_find?_eq_some h1
theorem dget_of : ∀ {m : Dm} {u : Str} {d : Int}, (m.map (·.1)).Nodup → (u, d) ∈ m → dget m u = some d
  | [], _, _, _, h => absurd h List.not_mem_nil
  | x :: r, u, d, nd, h => by
    rw [List.map_cons, List.nodup_cons] at nd
    unfold dget
    by_cases c : x.1 = u
    · rw [List.find?_cons_of_pos (by simpa using c)]
      rcases List.mem_cons.mp h with rfl | h
      · rfl
      · exact absurd (List.mem_map.mpr ⟨_, h, c.symm⟩) nd.1
    · rw [List.find?_cons_of_neg (by simpa using c)]
      rcases List.mem_cons.mp h with rfl | h
      · exact absurd rfl c
      · exact dget_of nd.2 h
/-- good names and digits -/
structure Dg (m : Dm) : Prop where
  nd : (m.map (·.1)).Nodup
  us : ∀ e ∈ m, Us e.1
  ds : ∀ e ∈ m, 0 ≤ e.2 ∧ e.2 ≤ 7
  l6 : m.length ≤ 6
theorem Dg.perm {m n : Dm} (h : Dg m) (p : n.Perm m) : Dg n :=
  ⟨(p.map _).nodup_iff.mpr h.nd, fun e he => h.us e (p.mem_iff.mp he), fun e he => h.ds e (p.mem_iff.mp he), by rw [p.length_eq]; exact h.l6⟩
def dd (m : Dm) (u : Str) : Int := (dget m u).getD 0
noncomputable def sd (m : Dm) : Dm := (srt (m.map (·.1))).map fun u => (u, dd m u)
theorem sd_eq {m : Dm} {ys : List Str} (p : ys.Perm (m.map (·.1))) (h : sortedS ys = true) : sd m = ys.map fun u => (u, dd m u) := by
  unfold sd
  rw [← srt_eq p h]
theorem dd_map {m : Dm} (nd : (m.map (·.1)).Nodup) : (m.map (·.1)).map (fun u => (u, dd m u)) = m := by
  rw [List.map_map]
  conv => rhs; rw [← List.map_id m]
  refine List.map_congr_left fun e he => ?_
  show (e.1, dd m e.1) = e
  unfold dd
  rw [dget_of nd he]
  rfl
theorem sd_perm {m : Dm} (nd : (m.map (·.1)).Nodup) {ys : List Str} (p : ys.Perm (m.map (·.1))) (h : sortedS ys = true) : (sd m).Perm m := by
  rw [sd_eq p h]
  have := p.map fun u => (u, dd m u)
  rwa [dd_map nd] at this
theorem dget_perm {m n : Dm} (nd : (m.map (·.1)).Nodup) (p : n.Perm m) (u : Str) : dget n u = dget m u := by
  cases h : dget m u with
  | some d => exact dget_of ((p.map _).nodup_iff.mpr nd) (p.mem_iff.mpr (dget_mem h))
  | none =>
    cases h2 : dget n u with
    | none => rfl
    | some d => rw [dget_of nd (p.mem_iff.mp (dget_mem h2))] at h; cases h
structure AcR where
  ow : Int
  gr : Int
  ot : Int
  us : Dm
  gs : Dm
  ma : Option Int
structure AccOk (c : AcR) : Prop where
  o : 0 ≤ c.ow ∧ c.ow ≤ 7
  g : 0 ≤ c.gr ∧ c.gr ≤ 7
  t : 0 ≤ c.ot ∧ c.ot ≤ 7
  u : Dg c.us
  s : Dg c.gs
  m : (c.ma = none ∧ c.us = [] ∧ c.gs = []) ∨ ∃ d, c.ma = some d ∧ 0 ≤ d ∧ d ≤ 7
structure ALx (A : Ads) (H : Hp) (p dx : Addr) (c : AcR) (o g t mv : V) (u s : Addr) (ku ks : List (L2.Key × V)) : Prop where
  ob : H p = some (.ins A.C_AccessList dx [("_owner", o), ("_group", g), ("_other", t), ("_users", .ref u), ("_groups", .ref s), ("_mask", mv)])
  ho : IsR A H o c.ow
  hg : IsR A H g c.gr
  ht : IsR A H t c.ot
  hu : H u = some (.dK ku)
  hs : H s = some (.dK ks)
  du : DV (IsR A H) ku (sd c.us)
  ds : DV (IsR A H) ks (sd c.gs)
  hm : (mv = .non ∧ c.ma = none) ∨ ∃ d, c.ma = some d ∧ IsR A H mv d
def AL (A : Ads) (H : Hp) (p : Addr) (c : AcR) : Prop := ∃ dx o g t mv u s ku ks, ALx A H p dx c o g t mv u s ku ks
theorem ALx.keep {A : Ads} {H H' : Hp} {p dx : Addr} {c : AcR} {o g t mv : V} {u s : Addr} {ku ks : List (L2.Key × V)} (h : ALx A H p dx c o g t mv u s ku ks) (k : Keep [] H H') : ALx A H' p dx c o g t mv u s ku ks :=
  ⟨k _ _ h.ob (by simp), IsR.keep h.ho k, IsR.keep h.hg k, IsR.keep h.ht k, k _ _ h.hu (by simp), k _ _ h.hs (by simp), h.du.imp fun _ _ r => IsR.keep r k, h.ds.imp fun _ _ r => IsR.keep r k, h.hm.imp id fun ⟨d, e, r⟩ => ⟨d, e, IsR.keep r k⟩⟩
theorem AL.keep {A : Ads} {H H' : Hp} {p : Addr} {c : AcR} (h : AL A H p c) (k : Keep [] H H') : AL A H' p c := by
  obtain ⟨dx, o, g, t, mv, u, s, ku, ks, h⟩ := h
  exact ⟨dx, o, g, t, mv, u, s, ku, ks, h.keep k⟩
end K51
namespace K51
open PySem PySem.Spec PyProof.Rows L2 FR TL
open C8 (pss_cut pe_gc)
open StX (pe_callS2 pa_star)
theorem upd_again {H : Hp} {a : Addr} {o o' : HO} : upd (upd H a o) a o' = upd H a o' := by
  funext b
  by_cases c : b = a
  · subst c; rw [upd_same, upd_same]
  · rw [upd_ne c, upd_ne c, upd_ne c]
theorem take_none {α : Type} {L : List α} {i : Nat} {x : α} (nd : L.Nodup) (h : L[i]? = some x) : x ∉ L.take i := fun hx => by
  obtain ⟨j, hj, e⟩ := List.mem_iff_getElem.mp hx
  rw [List.length_take] at hj
  rw [List.getElem_take] at e
  obtain ⟨hi, e2⟩ := List.getElem?_eq_some_iff.mp h
  have := (List.getElem?_inj hi nd).mp (h.trans (List.getElem?_eq_some_iff.mpr ⟨by omega, e⟩).symm)
  omega
theorem keep_free {H H' : Hp} {D : Addr} {o : HO} (k : Keep [] H H') (h : H D = none) : Keep [] H (upd H' D o) := fun b u e hb => by
  rw [upd_ne (ne_of_none e h)]
  exact k b u e hb
theorem paired_app {α β : Type} {R : α → β → Prop} {a a' : List α} {b b' : List β} (h : Paired R a b) (h' : Paired R a' b') : Paired R (a ++ a') (b ++ b') := by
  induction h with
  | nil => exact h'
  | cons x t ih => exact .cons x ih
theorem paired_snoc {α β : Type} {R : α → β → Prop} {a : List α} {b : List β} {x : α} {y : β} (h : Paired R a b) (r : R x y) : Paired R (a ++ [x]) (b ++ [y]) := paired_app h (.cons r .nil)
section
variable {P : Program} {w : World} {K : PySem.W.Frag} {mg : Str → Option Value} {base : Heap} {A : Ads}
set_option pp.maxSteps 120
theorem ok__keys_in_order (T : Txt w K mg A) : FnOk P w K mg base CX0 1 A.f__keys_in_order A.d__keys_in_order ["value"] (fun vs H Q _ => ∃ a kvs ks, vs = [.ref a] ∧ H a = some (.dK kvs) ∧ kvs.map (·.1) = ks.map Sum.inr ∧ ks.length ≤ 6 ∧ ∀ ys, ys.Perm ks → sortedS ys = true → NewO (.lst (ys.map V.str)) Q H) := by
  refine T.F__keys_in_order.ok sc__keys_in_order (fun vs H Q E h => ?_) (fun cdv A_ outer s_ H vs Q E hr h => ?_)
  · obtain ⟨a, kvs, ks, rfl, _⟩ := h
    rfl
  · obtain ⟨a, kvs, ks, rfl, ha, hk, l6, q⟩ := h
    refine ⟨_, (pss_cons (ps_lock (ps_setLc (i := 1) (own := [("key", 2)]) (g := gName 2) rfl sc__keys_in_order.nd rfl rfl (sw_true rfl rfl rfl (by decide +kernel)) (pi_keys (pv 0)) (blkOk_by (own := [("key", 2)]) (N := N__keys_in_order) (sc := defScope s__keys_in_order) (by decide +kernel)) (fun _ _ _ _ _ => pg_name (i := 2) sc__keys_in_order.nd rfl (Or.inl rfl)) (fun _ _ _ _ _ => (pts_one (pt_val (pe_callB (call_isiK (K := K) rfl) (by rfl) T.b_isinstance (by decide +kernel) (pa_cons (pv 2) (pa_cons (pe_bltn (v := .ty "str") rfl T.b_str (by decide +kernel) rfl) pa_nil)))))) (fun _ _ _ _ _ => (pv 2))))
  (pss_one (ps_ret (pe_op op_catN (pe_callB cr_sortedS (by rfl) T.b_sorted (by decide +kernel) (pa_cons (pe_lock (pe_lc (own := [("key", 2)]) (g := gName 2) rfl sc__keys_in_order.nd (pi_keys (pv 0)) (blkOk_by (own := [("key", 2)]) (N := N__keys_in_order) (sc := defScope s__keys_in_order) (by decide +kernel)) (fun _ _ _ _ _ => pg_name (i := 2) sc__keys_in_order.nd rfl (Or.inl rfl)) (fun _ _ _ _ _ => (pts_one (pt_not (pt_val (pe_callB (call_isiK (K := K) rfl) (by rfl) T.b_isinstance (by decide +kernel) (pa_cons (pv 2) (pa_cons (pe_bltn (v := .ty "str") rfl T.b_str (by decide +kernel) rfl) pa_nil))))))) (fun _ _ _ _ _ => (pv 2)))) pa_nil)) (pe_callB cr_sortedS (by rfl) T.b_sorted (by decide +kernel) (pa_cons (pv 1) pa_nil)))))), ?_⟩
    have hl : kvs.length = ks.length := by simpa using congrArg List.length hk
    have key : ∀ {i : Nat} {k : L2.Key} {v : V}, kvs[i]? = some (k, v) → ∃ s, ks[i]? = some s ∧ k = Sum.inr s := fun {i k v} h => by
      have h1 : (kvs.map (·.1))[i]? = some k := by rw [List.getElem?_map, h]; rfl
      rw [hk, List.getElem?_map] at h1
      obtain ⟨s, h2, h3⟩ := Option.map_eq_some_iff.mp h1
      exact ⟨s, h2, h3.symm⟩
    refine ⟨a, _, ha, trivial, fun od => ?_⟩
    refine ⟨_, rfl, a, od, rfl, .inl ⟨kvs, upd_same, fun D hD => ?_⟩⟩
    have nD : D ≠ a := fun e => by rw [e, upd_same] at hD; cases hD
    refine lc_it walk_keys (fun i H1 => H1 = upd (upd H a (.frz od (.dK kvs))) D (.lst ((ks.take i).map V.str))) rfl (fun i H1 _ e => ?_) (fun i x H1 H2 hi e y => ?_) (fun H1 e => ?_)
    · subst e
      rw [upd_ne (Ne.symm nD), upd_same]
    · subst e
      obtain ⟨rfl, k, v, hkv, rfl⟩ := y
      obtain ⟨s, hs, rfl⟩ := key hkv
      walk_at "rd"
      refine ⟨_, upd_same, size_ok (by rw [List.length_map, List.length_take]; omega), ?_⟩
      rw [upd_again, List.take_add_one, hs, List.map_append]
      rfl
    · subst e
      rw [hl, List.take_length]
      refine ⟨by rw [upd_ne (Ne.symm nD), upd_same], ?_⟩
      have k1 : Keep [] H (upd (upd (upd H a (.frz od (.dK kvs))) D (.lst (ks.map V.str))) a (.dK kvs)) := keep_lock ha (keep_new hD)
      have hD1 : (upd (upd (upd H a (.frz od (.dK kvs))) D (.lst (ks.map V.str))) a (.dK kvs)) D = some (.lst (ks.map V.str)) := by rw [upd_ne nD, upd_same]
      generalize upd (upd (upd H a (.frz od (.dK kvs))) D (.lst (ks.map V.str))) a (.dK kvs) = H1 at k1 hD1 ⊢
      have ha1 := k1 _ _ ha (by simp)
      clear hD
      refine ⟨a, _, ha1, trivial, fun od2 => ?_⟩
      refine ⟨_, rfl, a, od2, rfl, .inl ⟨kvs, upd_same, fun D2 hD2 => ?_⟩⟩
      have nD2 : D2 ≠ a := fun e => by rw [e, upd_same] at hD2; cases hD2
      refine lc_it walk_keys (fun i H2 => H2 = upd (upd H1 a (.frz od2 (.dK kvs))) D2 (.lst [])) rfl (fun i H2 _ e => ?_) (fun i x H2 H3 hi e y => ?_) (fun H2 e => ?_)
      · subst e
        rw [upd_ne (Ne.symm nD2), upd_same]
      · subst e
        obtain ⟨rfl, k, v, hkv, rfl⟩ := y
        obtain ⟨s, hs, rfl⟩ := key hkv
        walk_at "rd"
        rfl
      · subst e
        refine ⟨by rw [upd_ne (Ne.symm nD2), upd_same], ?_⟩
        have k2 : Keep [] H1 (upd (upd (upd H1 a (.frz od2 (.dK kvs))) D2 (.lst [])) a (.dK kvs)) := keep_lock ha1 (keep_new hD2)
        have hD3 : (upd (upd (upd H1 a (.frz od2 (.dK kvs))) D2 (.lst [])) a (.dK kvs)) D2 = some (.lst []) := by rw [upd_ne nD2, upd_same]
        generalize upd (upd (upd H1 a (.frz od2 (.dK kvs))) D2 (.lst [])) a (.dK kvs) = H3 at k2 hD3 ⊢
        refine ⟨D2, [], rfl, .inl (.inl hD3), by decide, fun zs p4 pz _ n4 => ?_⟩
        obtain rfl : zs = [] := List.length_eq_zero_iff.mp pz.length_eq
        have k3 : Keep [] H1 (upd H3 p4 (.lst ([].map V.str))) := k2.trans (keep_new n4)
        have h4 : upd H3 p4 (.lst ([].map V.str)) p4 = some (.lst []) := upd_same
        generalize upd H3 p4 (.lst ([].map V.str)) = H4 at k3 h4 ⊢
        refine ⟨_, rfl, D, ks, rfl, .inl (.inl (k3 _ _ hD1 (by simp))), by omega, fun ys p5 py sy n5 => ?_⟩
        have k4 : Keep [] H (upd H4 p5 (.lst (ys.map V.str))) := (k1.trans k3).trans (keep_new n5)
        have h5 : upd H4 p5 (.lst (ys.map V.str)) p5 = some (.lst (ys.map V.str)) := upd_same
        have h4' : upd H4 p5 (.lst (ys.map V.str)) p4 = some (.lst []) := by rw [upd_ne (ne_of_none h4 n5)]; exact h4
        generalize upd H4 p5 (.lst (ys.map V.str)) = H5 at k4 h5 h4' ⊢
        have ly := py.length_eq
        refine ⟨p4, p5, _, _, rfl, rfl, h4', h5, size_le (by rw [List.length_map]; simp; omega), NewO.mk fun p6 H6 n6 k6 h6 => ?_⟩
        exact (q ys py sy).to p6 H6 (k4.free n6) (k4.trans k6) h6
def DT (kvs : List (L2.Key × V)) (m : Dm) : Prop := DV (fun x d => ∃ t, x = .str t ∧ (t, d) ∈ goodT) kvs m
theorem IsR.put {H : Hp} {D : Addr} {o o' : HO} {x : V} {d : Int} (r : IsR A H x d) (h : H D = some o) (n : ∀ C dx fs, o ≠ .ins C dx fs) : IsR A (upd H D o') x d := by
  obtain ⟨a, dx, rfl, ha, r⟩ := r
  exact ⟨a, dx, rfl, by rw [upd_ne (ne_of ha h fun z => n _ _ _ z.symm)]; exact ha, r⟩
theorem ok__named_rights (T : Txt w K mg A) : FnOk P w K mg base CX0 6 A.f__named_rights A.d__named_rights ["value"] (fun vs H Q _ => (vs = [.non] ∧ NewO (.dK []) Q H) ∨ ∃ a kvs m, vs = [.ref a] ∧ H a = some (.dK kvs) ∧ DT kvs m ∧ Dg m ∧ ∀ p H' ks, H p = none → Keep [] H H' → H' p = some (.dK ks) → DV (IsR A H') ks (sd m) → (sd m).Perm m → Q (.ref p) H') := by
  refine T.F__named_rights.ok sc__named_rights (fun vs H Q E h => ?_) (fun cdv A_ outer s_ H vs Q E hr h => ?_)
  · obtain ⟨rfl, _⟩ | ⟨a, kvs, m, rfl, _⟩ := h <;> rfl
  · refine ⟨_, (pss_cons (ps_if (pt_cmpR op_isN (pv 0) pe_non (nomark _)) (pss_one (ps_ret pe_dnewN)) pss_nil)
  (pss_cons (ps_if (PW.pt (pw_or (pt_not (pt_val (pe_callB call_isi (by rfl) T.b_isinstance (by decide +kernel) (pa_cons (pv 0) (pa_cons (pe_bltn (v := .ty "dict") rfl T.b_dict (by decide +kernel) rfl) pa_nil))))) (pw_or1 (pt_cmpR op_gt (pe_callB call_lenD (by rfl) T.b_len PySem.boot_len (pa_cons (pv 0) pa_nil)) (pe_gc rfl T.c_MOST_NAMED) (nomark _))))) (pss_one ps_never) pss_nil)
  (pss_cons (ps_set (i := 1) sc__named_rights.nd rfl (.inl rfl) pe_dnewN)
  (pss_cons (ps_for PassesOwn.never rfl (pi_list (pe_call (ok__keys_in_order T) (hr.mono (by decide)) (by rfl) T.g__keys_in_order T.F__keys_in_order.kp T.B__keys_in_order .nil pass0 (pa_cons (pv 0) pa_nil))) (pg_name (i := 2) sc__named_rights.nd rfl (.inl rfl)) (pss_cons (ps_if (pt_not (pt_val (pe_call (ok_is_user_name T) (hr.mono (by decide)) (by rfl) T.g_is_user_name T.F_is_user_name.kp T.B_is_user_name .nil pass0 (pa_cons (pv 2) pa_nil)))) (pss_one ps_never) pss_nil)
  (pss_one (ps_asg (pe_call (ok_as_rights T) (hr.mono (by decide)) (by rfl) T.g_as_rights T.F_as_rights.kp T.B_as_rights .nil pass0 (pa_cons (pe_dget (hu_of hr) (pv 0) (pv 2) (fun _ _ => rfl)) pa_nil)) (pg_sub (pv 1) (pv 2) (set_dict (hu_of hr)))))))
  (pss_one (ps_ret (pv 1))))))), ?_⟩
    obtain ⟨rfl, q⟩ | ⟨a, kvs, m, rfl, ha, dt, gd, q⟩ := h
    · refine ⟨_, rfl, rfl, _, rfl, ?_⟩
      refine ifT (decide_eq_true rfl) ?_
      exact q
    have l6 := gd.l6
    have hl := dt.len
    refine ⟨_, rfl, rfl, _, rfl, ?_⟩
    refine ifF (decide_eq_false (fun z => by cases z)) ?_
    refine ⟨_, rfl, _, _, _, _, _, rfl, .ty _, TyX.base (.dK ha), kit_ty ki_dK_dict, _, rfl, ?_⟩
    refine ifF rfl ?_
    refine ⟨_, rfl, a, kvs, rfl, ha, _, _, rfl, rfl, _, rfl, ?_⟩
    refine ifF (decide_eq_false (by omega)) ?_
    refine NewO.mk fun n H1 nn k1 h1 => ?_
    refine ⟨_, rfl, a, kvs, m.map (·.1), rfl, k1 _ _ ha (by simp), dt.keys, by rw [List.length_map]; exact l6, fun ys py sy => NewO.mk fun l H2 nl k2 h2 => ?_⟩
    have eM := sd_eq py sy
    have pM := sd_perm gd.nd py sy
    have ynd : ys.Nodup := py.nodup_iff.mpr gd.nd
    have K2 := k1.trans k2
    have hn2 := k2 _ _ h1 (by simp)
    have ly : ys.length ≤ 6 := by rw [py.length_eq, List.length_map]; exact l6
    refine ⟨l, rfl, ⟨_, .inl (.inl h2)⟩, ?_⟩
    refine for_li (K := K) (a := l) (xs := ys.map V.str) (fun pre σ H' => (∃ y2, σ = [some (.ref a), some (.ref n), y2]) ∧ Keep [] H H' ∧ H' l = some (.lst (ys.map V.str)) ∧ ∃ ks, H' n = some (.dK ks) ∧ DV (IsR A H') ks ((sd m).take pre.length)) ⟨⟨none, rfl⟩, K2, h2, [], hn2, .nil⟩ (fun pre post σ H' _ h => .inl (.inl h.2.2.1)) ?_ ?_
    · rintro pre v post σ H3 ex ⟨⟨y2, rfl⟩, K3, hl3, ks, hn3, dv⟩
      have hx : (ys.map V.str)[pre.length]? = some v := by rw [ex]; simp
      rw [List.getElem?_map] at hx
      obtain ⟨u, hu, rfl⟩ := Option.map_eq_some_iff.mp hx
      have hum : u ∈ m.map (·.1) := py.mem_iff.mp (List.mem_of_getElem? hu)
      have hMi : (sd m)[pre.length]? = some (u, dd m u) := by rw [eM, List.getElem?_map, hu]; rfl
      have nin : u ∉ ((sd m).take pre.length).map (·.1) := by
        rw [List.map_take, eM, List.map_map, show ys.map ((fun x : Str × Int => x.1) ∘ fun u => (u, dd m u)) = ys from List.map_id _]
        exact take_none ynd hu
      obtain ⟨_, _, c⟩ | ⟨v, d, hv, hd, ⟨t, rfl, ht⟩, _⟩ := dt.val u
      · exact absurd hum c
      have ed : dd m u = d := by unfold dd; rw [hd]; rfl
      obtain ⟨e, he, eu⟩ := List.mem_map.mp hum
      have us : Us u := by rw [← eu]; exact gd.us e he
      refine ⟨_, rfl, u, rfl, us, ?_⟩
      refine ⟨_, rfl, ?_⟩
      refine ifF rfl ?_
      refine ⟨_, rfl, _, rfl, a, _, rfl, .inl ⟨kvs, Sum.inr u, .inl (K3 _ _ ha (by simp)), rfl, hv.symm⟩, ?_⟩
      refine ⟨_, d, rfl, .inr ⟨t, rfl, ht, fun r dr H4 hr4 hdr4 k4 h4 => ?_⟩⟩
      have hn4 := k4 _ _ hn3 (by simp)
      have r4 : IsR A H4 (.ref r) d := ⟨r, dr, rfl, h4, good_in ht⟩
      obtain ⟨s1, s2⟩ := (dv.imp fun _ _ z => (IsR.keep z k4).put (o' := .dK (ks ++ [(Sum.inr u, .ref r)])) hn4 (fun _ _ _ z => by cases z)).snoc (v := .ref r) (d := d) (r4.put hn4 (fun _ _ _ z => by cases z)) nin
      refine ⟨_, rfl, _, rfl, n, _, rfl, .inl ⟨ks, Sum.inr u, hn4, rfl, ?_, rfl⟩, ?_⟩
      · refine size_ok ?_
        rw [dv.len, List.length_take, pM.length_eq]
        omega
      · refine ⟨⟨_, rfl⟩, keep_free (K3.trans k4) nn, ?_, ks ++ [(Sum.inr u, .ref r)], by rw [s1, upd_same], ?_⟩
        · rw [upd_ne (ne_of (k4 _ _ hl3 (by simp)) hn4 (fun z => by cases z))]
          exact k4 _ _ hl3 (by simp)
        · rw [s1, List.length_append, List.length_singleton, List.take_add_one, hMi, ed]
          exact s2
    · rintro σ H3 ⟨⟨y2, rfl⟩, K3, hl3, ks, hn3, dv⟩
      have lM : (ys.map V.str).length = (sd m).length := by rw [List.length_map, eM, List.length_map]
      rw [lM, List.take_length] at dv
      refine ⟨_, rfl, ?_⟩
      exact q n H3 ks nn K3 hn3 dv pM
end
end K51
namespace K51
open PySem PySem.Spec PyProof.Rows L2 FR TL
open C8 (pss_cut pe_gc)
open StX (pe_callS2 pa_star)
section
variable {P : Program} {w : World} {K : PySem.W.Frag} {mg : Str → Option Value} {base : Heap} {A : Ads}
set_option pp.maxSteps 120
theorem sd0 : sd [] = [] := sd_eq (m := []) (ys := []) (List.Perm.refl _) rfl
def Fso (fs : List (Str × V)) : Prop := fs = [] ∨ ∃ v r, fs = ((Str.ofString "_owner"), v) :: r
theorem rg_ne {A : Ads} {dx C dx' : Addr} {d : Int} {fs : List (Str × V)} (h : Fso fs) : RgO A dx d ≠ .ins C dx' fs := fun e => by
  unfold RgO at e
  injection e with _ _ e
  rcases h with rfl | ⟨v, r, rfl⟩
  · cases e
  · injection e with e _
    have e := congrArg Prod.fst e
    exact absurd (show Str.ofString "_digit" = Str.ofString "_owner" from e) (by decide +kernel)
theorem IsR.putP {H : Hp} {p C dx : Addr} {fs : List (Str × V)} {o' : HO} {x : V} {d : Int} (r : IsR A H x d) (h : H p = some (.ins C dx fs)) (n : Fso fs) : IsR A (upd H p o') x d := by
  obtain ⟨a, dx2, rfl, ha, r⟩ := r
  exact ⟨a, dx2, rfl, by rw [upd_ne (ne_of ha h (rg_ne n))]; exact ha, r⟩
theorem dv_pairs {R : V → Int → Prop} {kvs : List (L2.Key × V)} {m : Dm} (h : DV R kvs m) : ∃ ps : List (V × Int), ps.map (·.1) = kvs.map (·.2) ∧ ps.map (·.2) = m.map (·.2) ∧ ∀ p ∈ ps, R p.1 p.2 := by
  unfold DV at h
  induction h with
  | nil => exact ⟨[], rfl, rfl, fun p h => by cases h⟩
  | @cons kv e a b h t ih =>
    obtain ⟨ps, e1, e2, e3⟩ := ih
    refine ⟨(kv.2, e.2) :: ps, by rw [List.map_cons, List.map_cons, e1], by rw [List.map_cons, List.map_cons, e2], fun p hp => ?_⟩
    rcases List.mem_cons.mp hp with rfl | hp
    · exact h.2
    · exact e3 p hp
def spMask (A : Ads) : Sp := fun vs H Q _ => ∃ p dx fs g u s dg ku ks mu ms, vs = [.ref p] ∧ H p = some (.ins A.C_AccessList dx fs) ∧ fs.lookup (Str.ofString "_group") = some g ∧ fs.lookup (Str.ofString "_users") = some (.ref u) ∧ fs.lookup (Str.ofString "_groups") = some (.ref s) ∧ IsR A H g dg ∧ H u = some (.dK ku) ∧ H s = some (.dK ks) ∧
  DV (IsR A H) ku mu ∧ DV (IsR A H) ks ms ∧ mu.length ≤ 6 ∧ ms.length ≤ 6 ∧ ((mu ++ ms = [] ∧ ∀ H', Keep [] H H' → Q .non H') ∨ (mu ++ ms ≠ [] ∧ NewR A (orAll (dg :: (mu ++ ms).map (·.2))) Q H))
theorem ok_AccessList__first_mask (T : Txt w K mg A) : FnOk P w K mg base CX0 8 A.f_AccessList__first_mask A.d_AccessList__first_mask ["self"] (spMask A) := by
  refine T.F_AccessList__first_mask.ok sc_AccessList__first_mask (fun vs H Q E h => ?_) (fun cdv A_ outer s_ H vs Q E hr h => ?_)
  · obtain ⟨p, dx, fs, g, u, s, dg, ku, ks, mu, ms, rfl, _⟩ := h
    rfl
  · obtain ⟨p, dx, fs, g, u, s, dg, ku, ks, mu, ms, rfl, hp, fg, fu, fs', hg, hu, hs, du, ds, l1, l2, q⟩ := h
    refine ⟨_, (pss_cons (ps_set (i := 1) sc_AccessList__first_mask.nd rfl (.inl rfl) (pe_op op_catN (pe_callTy (call_lVals rfl) (by rfl) T.b_list (by decide +kernel) (pa_cons (pe_bm0 PySem.F.plainAttrs_dict PySem.F.slot_dict_values PySem.F.type_dict_values mt_valuesK (pe_fld (pv 0) rfl)) pa_nil)) (pe_callTy (call_lVals rfl) (by rfl) T.b_list (by decide +kernel) (pa_cons (pe_bm0 PySem.F.plainAttrs_dict PySem.F.slot_dict_values PySem.F.type_dict_values mt_valuesK (pe_fld (pv 0) rfl)) pa_nil))))
  (pss_one (ps_ret (pe_ifExp (pt_truth (pv 1) (by intro _; rfl)) (pe_cmethS (pe_gc rfl T.c_Rights) T.cr_Rights T.cm_Rights_of (ok_Rights_of T) (hr.mono (by decide)) pass0 (pe_fld (pv 0) rfl) (pv 1)) pe_non)))), ?_⟩
    have lu := du.len
    have ls := ds.len
    refine ⟨_, rfl, p, _, dx, _, _, rfl, hp, T.cl_AccessList, T.na_AccessList__users, fu, ?_⟩
    refine ⟨.inr (.inr (.inl ⟨rfl, .inl ⟨_, hu⟩⟩)), u, _, rfl, rfl, hu, fun p1 n1 => ?_⟩
    have hu1 : upd H p1 (valuesO p1 u) u = some (.dK ku) := by rw [upd_ne (ne_of_none hu n1)]; exact hu
    have k1 : Keep [] H (upd H p1 (valuesO p1 u)) := keep_new n1
    refine ⟨p1, u, _, rfl, upd_same, hu1, NewO.mk fun p2 H2 n2 k2 h2 => ?_⟩
    have k12 := k1.trans k2
    refine ⟨_, rfl, p, _, dx, _, _, rfl, k12 _ _ hp (by simp), T.cl_AccessList, T.na_AccessList__groups, fs', ?_⟩
    have hs2 := k12 _ _ hs (by simp)
    refine ⟨.inr (.inr (.inl ⟨rfl, .inl ⟨_, hs2⟩⟩)), s, _, rfl, rfl, hs2, fun p3 n3 => ?_⟩
    have hs3 : upd H2 p3 (valuesO p3 s) s = some (.dK ks) := by rw [upd_ne (ne_of_none hs2 n3)]; exact hs2
    have k3 : Keep [] H2 (upd H2 p3 (valuesO p3 s)) := keep_new n3
    refine ⟨p3, s, _, rfl, upd_same, hs3, NewO.mk fun p4 H4 n4 k4 h4 => ?_⟩
    have k34 := k3.trans k4
    refine ⟨p2, p4, _, _, rfl, rfl, k34 _ _ h2 (by simp), h4, size_le (by rw [List.length_map, List.length_map]; omega), NewO.mk fun p5 H5 n5 k5 h5 => ?_⟩
    have K5 := (k12.trans k34).trans k5
    have n5' : H p5 = none := (k12.trans k34).free n5
    obtain ⟨pu, u1, u2, u3⟩ := dv_pairs du
    obtain ⟨pg, g1, g2, g3⟩ := dv_pairs ds
    rcases q with ⟨e0, q⟩ | ⟨ne, q⟩
    · obtain ⟨rfl, rfl⟩ := List.append_eq_nil_iff.mp e0
      obtain rfl : ku = [] := List.length_eq_zero_iff.mp lu
      obtain rfl : ks = [] := List.length_eq_zero_iff.mp ls
      refine ⟨_, rfl, false, .inl ⟨[], .inl (.inl h5), rfl⟩, ?_⟩
      refine ifF rfl ?_
      exact q H5 K5
    · refine ⟨_, rfl, true, .inl ⟨_, .inl (.inl h5), ?_⟩, ?_⟩
      · have : (ku.map (·.2) ++ ks.map (·.2)).length ≠ 0 := by
          rw [List.length_append, List.length_map, List.length_map, lu, ls]
          intro z
          exact ne (List.length_eq_zero_iff.mp (by rw [List.length_append]; exact z))
        cases hh : (ku.map (·.2) ++ ks.map (·.2)) with
        | nil => rw [hh] at this; exact absurd rfl this
        | cons a b => rfl
      refine ifT rfl ?_
      refine ⟨rfl, _, rfl, p, _, dx, _, _, rfl, K5 _ _ hp (by simp), T.cl_AccessList, T.na_AccessList__group, fg, _, rfl, p5, _, rfl, .inr (.inl (.inl h5)), (g, dg) :: (pu ++ pg), ?_, ?_, ?_, ?_⟩
      · rw [List.map_cons, List.map_append, u1, g1]
      · rw [List.length_cons, List.length_append]
        have a1 := congrArg List.length u2
        have a2 := congrArg List.length g2
        rw [List.length_map, List.length_map] at a1 a2
        omega
      · intro z hz
        rcases List.mem_cons.mp hz with rfl | hz
        · exact .inl (IsR.keep hg K5)
        · rcases List.mem_append.mp hz with hz | hz
          · exact .inl (IsR.keep (u3 z hz) K5)
          · exact .inl (IsR.keep (g3 z hz) K5)
      · intro x dx' H6 hx hdx k6 h6
        refine q x dx' H6 (K5.free hx) (K5.free hdx) (K5.trans k6) ?_
        rw [h6, List.map_cons, List.map_append, List.map_append, u2, g2]
theorem putF_new {f : Str} {v : V} : ∀ {fs : List (Str × V)}, (∀ q ∈ fs, q.1 ≠ f) → putF f v fs = fs ++ [(f, v)]
  | [], _ => rfl
  | (g, x) :: r, h => by
    have ne : g ≠ f := h (g, x) List.mem_cons_self
    show (if g = f then _ else _) = _
    rw [if_neg ne, putF_new fun q hq => h q (List.mem_cons_of_mem _ hq)]
    rfl
theorem Part.keepP {H H' : Hp} {p C dx : Addr} {v : V} {d : Int} (h : Part A H v d) (hp : H p = some (.ins C dx [])) (k : Keep [p] H H') : Part A H' v d := by
  rcases h with ⟨a, dx2, rfl, ha, r⟩ | h
  · exact .inl ⟨a, dx2, rfl, k _ _ ha (by simpa using ne_of ha hp (rg_ne (.inl rfl))), r⟩
  · exact .inr h
theorem ok_as_rightsP (T : Txt w K mg A) : FnOk P w K mg base CX0 4 A.f_as_rights A.d_as_rights ["value"] (fun vs H Q _ => ∃ v d, vs = [v] ∧ Part A H v d ∧ ∀ x H1, Keep [] H H1 → IsR A H1 x d → Q x H1) := by
  refine (ok_as_rights T).imp fun vs H Q E h => ?_
  obtain ⟨v, d, rfl, h | ⟨t, rfl, g⟩, q⟩ := h
  · exact ⟨v, d, rfl, .inl ⟨h, q v H Keep.refl h⟩⟩
  · exact ⟨_, d, rfl, .inr ⟨t, rfl, g, fun x dx H1 _ _ k1 h1 => q _ H1 k1 ⟨x, dx, rfl, h1, good_in g⟩⟩⟩
def spInitA (A : Ads) : Sp := fun vs H Q _ => ∃ p dx vo vg vt ud c, vs = [.ref p, vo, vg, vt, ud, .non, .non] ∧ H p = some (.ins A.C_AccessList dx []) ∧ Part A H vo (AcR.ow c) ∧ Part A H vg c.gr ∧ Part A H vt c.ot ∧
  ((ud = .non ∧ c.us = []) ∨ ∃ q kud, ud = .ref q ∧ H q = some (.dK kud) ∧ DT kud c.us) ∧ c.gs = [] ∧ ((c.us = [] ∧ c.ma = none) ∨ (c.us ≠ [] ∧ c.ma = some (orAll (c.gr :: (sd c.us).map (·.2))))) ∧ AccOk c ∧ ∀ H', Keep [p] H H' → AL A H' p c → (sd c.us).Perm c.us → (sd c.gs).Perm c.gs → Q .non H'
theorem ok_AccessList___init__ (T : Txt w K mg A) : FnOk P w K mg base CX0 9 A.f_AccessList___init__ A.d_AccessList___init__ ["self", "owner", "group", "other", "users", "groups", "mask"] (spInitA A) := by
  refine (T.F_AccessList___init__.ok (CX := CX0) sc_AccessList___init__ (fun vs H Q E h => ?_) (fun cdv A_ outer s_ H vs Q E hr h => ?_))
  · obtain ⟨p, dx, vo, vg, vt, ud, c, rfl, _⟩ := h
    rfl
  · obtain ⟨p, dx, vo, vg, vt, ud, c, rfl, hp, go, gg, gt, hud, hgs, hm, ok, q⟩ := h
    refine ⟨_, (pss_cons (ps_fld (pv 0) (pe_call (ok_as_rightsP T) (hr.mono (by decide)) (by rfl) T.g_as_rights T.F_as_rights.kp T.B_as_rights .nil pass0 (pa_cons (pv 1) pa_nil)) rfl)
  (pss_cons (ps_fld (pv 0) (pe_call (ok_as_rightsP T) (hr.mono (by decide)) (by rfl) T.g_as_rights T.F_as_rights.kp T.B_as_rights .nil pass0 (pa_cons (pv 2) pa_nil)) rfl)
  (pss_cons (ps_fld (pv 0) (pe_call (ok_as_rightsP T) (hr.mono (by decide)) (by rfl) T.g_as_rights T.F_as_rights.kp T.B_as_rights .nil pass0 (pa_cons (pv 3) pa_nil)) rfl)
  (pss_cons (ps_fld (pv 0) (pe_call (ok__named_rights T) (hr.mono (by decide)) (by rfl) T.g__named_rights T.F__named_rights.kp T.B__named_rights .nil pass0 (pa_cons (pv 4) pa_nil)) rfl)
  (pss_cons (ps_fld (pv 0) (pe_call (ok__named_rights T) (hr.mono (by decide)) (by rfl) T.g__named_rights T.F__named_rights.kp T.B__named_rights .nil pass0 (pa_cons (pv 5) pa_nil)) rfl)
  (pss_one (ps_fld (pv 0) (pe_ifExp (pt_cmpR op_isN (pv 6) pe_non (nomark _)) (pe_meth0 (pv 0) T.cl_AccessList T.me_AccessList__first_mask (ok_AccessList__first_mask T) (hr.mono (by decide)) T.B_AccessList__first_mask .nil pass0) (pe_call (ok_as_rightsP T) (hr.mono (by decide)) (by rfl) T.g_as_rights T.F_as_rights.kp T.B_as_rights .nil pass0 (pa_cons (pv 6) pa_nil))) rfl))))))), ?_⟩
    refine ⟨_, rfl, _, _, rfl, go, fun o H1 k1 h1 => ?_⟩
    have hp1 := k1 _ _ hp (by simp)
    refine ⟨_, rfl, p, _, dx, _, rfl, hp1, T.cl_AccessList, T.na_AccessList__owner, by decide, ?_⟩
    have i0 : Fso ([] : List (Str × V)) := .inl rfl
    have cons : ∀ v r, Fso ((Str.ofString "_owner", v) :: r) := fun v r => .inr ⟨v, r, rfl⟩
    have o2 : IsR A (upd H1 p (.ins A.C_AccessList dx (putF (Str.ofString "_owner") o []))) o c.ow := IsR.putP h1 hp1 i0
    have K2 : Keep [p] H (upd H1 p (.ins A.C_AccessList dx (putF (Str.ofString "_owner") o []))) := fun b u e nb => by
      rw [upd_ne (by simpa using nb)]
      exact k1 _ _ e (by simp)
    have hp2 : (upd H1 p (.ins A.C_AccessList dx (putF (Str.ofString "_owner") o []))) p = some (.ins A.C_AccessList dx [(Str.ofString "_owner", o)]) := upd_same
    generalize upd H1 p (.ins A.C_AccessList dx (putF (Str.ofString "_owner") o [])) = H2 at o2 K2 hp2 ⊢
    clear k1 h1 hp1
    -- group
    have gg2 : Part A H2 vg c.gr := gg.keepP hp K2
    refine ⟨_, rfl, _, _, rfl, gg2, fun g H3 k3 h3 => ?_⟩
    have hp3 := k3 _ _ hp2 (by simp)
    refine ⟨_, rfl, p, _, dx, _, rfl, hp3, T.cl_AccessList, T.na_AccessList__group, by show 1 < 1000; decide, ?_⟩
    have o4 : IsR A (upd H3 p (.ins A.C_AccessList dx (putF (Str.ofString "_group") g [(Str.ofString "_owner", o)]))) o c.ow := (IsR.keep o2 k3).putP hp3 (cons _ _)
    have g4 : IsR A (upd H3 p (.ins A.C_AccessList dx (putF (Str.ofString "_group") g [(Str.ofString "_owner", o)]))) g c.gr := IsR.putP h3 hp3 (cons _ _)
    have K4 : Keep [p] H (upd H3 p (.ins A.C_AccessList dx (putF (Str.ofString "_group") g [(Str.ofString "_owner", o)]))) := fun b u e nb => by
      rw [upd_ne (by simpa using nb)]
      exact k3 _ _ (K2 _ _ e nb) (by simp)
    have hp4 : (upd H3 p (.ins A.C_AccessList dx (putF (Str.ofString "_group") g [(Str.ofString "_owner", o)]))) p = some (.ins A.C_AccessList dx [(Str.ofString "_owner", o), (Str.ofString "_group", g)]) := upd_same
    generalize upd H3 p (.ins A.C_AccessList dx (putF (Str.ofString "_group") g [(Str.ofString "_owner", o)])) = H4 at o4 g4 K4 hp4 ⊢
    clear k3 h3 hp3 o2 K2 hp2
    -- other
    have gt4 : Part A H4 vt c.ot := gt.keepP hp K4
    refine ⟨_, rfl, _, _, rfl, gt4, fun t H5 k5 h5 => ?_⟩
    have hp5 := k5 _ _ hp4 (by simp)
    refine ⟨_, rfl, p, _, dx, _, rfl, hp5, T.cl_AccessList, T.na_AccessList__other, by show 2 < 1000; decide, ?_⟩
    have o6 : IsR A (upd H5 p (.ins A.C_AccessList dx (putF (Str.ofString "_other") t [(Str.ofString "_owner", o), (Str.ofString "_group", g)]))) o c.ow := (IsR.keep o4 k5).putP hp5 (cons _ _)
    have g6 : IsR A (upd H5 p (.ins A.C_AccessList dx (putF (Str.ofString "_other") t [(Str.ofString "_owner", o), (Str.ofString "_group", g)]))) g c.gr := (IsR.keep g4 k5).putP hp5 (cons _ _)
    have t6 : IsR A (upd H5 p (.ins A.C_AccessList dx (putF (Str.ofString "_other") t [(Str.ofString "_owner", o), (Str.ofString "_group", g)]))) t c.ot := IsR.putP h5 hp5 (cons _ _)
    have K6 : Keep [p] H (upd H5 p (.ins A.C_AccessList dx (putF (Str.ofString "_other") t [(Str.ofString "_owner", o), (Str.ofString "_group", g)]))) := fun b u e nb => by
      rw [upd_ne (by simpa using nb)]
      exact k5 _ _ (K4 _ _ e nb) (by simp)
    have hp6 : (upd H5 p (.ins A.C_AccessList dx (putF (Str.ofString "_other") t [(Str.ofString "_owner", o), (Str.ofString "_group", g)]))) p = some (.ins A.C_AccessList dx [(Str.ofString "_owner", o), (Str.ofString "_group", g), (Str.ofString "_other", t)]) := by
      rw [upd_same]
      have e1 : Str.ofString "_owner" ≠ Str.ofString "_other" := by decide +kernel
      have e2 : Str.ofString "_group" ≠ Str.ofString "_other" := by decide +kernel
      simp [putF, e1, e2]
    generalize upd H5 p (.ins A.C_AccessList dx (putF (Str.ofString "_other") t [(Str.ofString "_owner", o), (Str.ofString "_group", g)])) = H6 at o6 g6 t6 K6 hp6 ⊢
    clear k5 h5 hp5 o4 g4 K4 hp4
    -- users
    have npud : ∀ q kud, H q = some (.dK kud) → q ≠ p := fun q kud hud => ne_of hud hp (fun z => by cases z)
    have usr : ∀ F : VK, (∀ u H7 ku, H6 u = none → Keep [] H6 H7 → H7 u = some (.dK ku) → DV (IsR A H7) ku (sd c.us) → (sd c.us).Perm c.us → F (.ref u) H7) → ([ud] = [.non] ∧ NewO (.dK []) F H6) ∨ ∃ a kvs m, [ud] = [.ref a] ∧ H6 a = some (.dK kvs) ∧ DT kvs m ∧ Dg m ∧ ∀ p H' ks, H6 p = none → Keep [] H6 H' → H' p = some (.dK ks) → DV (IsR A H') ks (sd m) → (sd m).Perm m → F (.ref p) H' := fun F f => by
      rcases hud with ⟨rfl, eu⟩ | ⟨q, kud, rfl, hq, dt⟩
      · refine .inl ⟨rfl, NewO.mk fun u H7 nu k7 hu7 => f u H7 [] nu k7 hu7 ?_ ?_⟩
        · rw [eu, sd0]; exact .nil
        · rw [eu, sd0]
      · exact .inr ⟨q, kud, c.us, rfl, K6 _ _ hq (by simpa using npud q kud hq), dt, ok.u, f⟩
    refine ⟨_, rfl, usr _ fun u H7 ku nu k7 hu7 dvu pu => ?_⟩
    have hp7 := k7 _ _ hp6 (by simp)
    refine ⟨_, rfl, p, _, dx, _, rfl, hp7, T.cl_AccessList, T.na_AccessList__users, by show 3 < 1000; decide, ?_⟩
    rw [putF_new (f := Str.ofString "_users") (fs := [(Str.ofString "_owner", o), (Str.ofString "_group", g), (Str.ofString "_other", t)]) (by simp; decide +kernel)]
    have nup : u ≠ p := ne_of hu7 hp7 (fun z => by cases z)
    have step : ∀ {F : HO}, (∀ x d, IsR A H7 x d → IsR A (upd H7 p F) x d) := fun {F} x d r => IsR.putP r hp7 (cons _ _)
    have hu8 : ∀ F, upd H7 p F u = some (.dK ku) := fun F => by rw [upd_ne nup]; exact hu7
    have K8 : ∀ F, Keep [p] H (upd H7 p F) := fun F b x e nb => by
      rw [upd_ne (by simpa using nb)]
      exact k7 _ _ (K6 _ _ e nb) (by simp)
    have hp8 : upd H7 p (.ins A.C_AccessList dx ([(Str.ofString "_owner", o), (Str.ofString "_group", g), (Str.ofString "_other", t)] ++ [(Str.ofString "_users", .ref u)])) p = _ := upd_same
    have o8 := step (F := .ins A.C_AccessList dx ([(Str.ofString "_owner", o), (Str.ofString "_group", g), (Str.ofString "_other", t)] ++ [(Str.ofString "_users", .ref u)])) _ _ (IsR.keep o6 k7)
    have g8 := step (F := .ins A.C_AccessList dx ([(Str.ofString "_owner", o), (Str.ofString "_group", g), (Str.ofString "_other", t)] ++ [(Str.ofString "_users", .ref u)])) _ _ (IsR.keep g6 k7)
    have t8 := step (F := .ins A.C_AccessList dx ([(Str.ofString "_owner", o), (Str.ofString "_group", g), (Str.ofString "_other", t)] ++ [(Str.ofString "_users", .ref u)])) _ _ (IsR.keep t6 k7)
    have dv8 := dvu.imp (step (F := .ins A.C_AccessList dx ([(Str.ofString "_owner", o), (Str.ofString "_group", g), (Str.ofString "_other", t)] ++ [(Str.ofString "_users", .ref u)])))
    have hu8 := hu8 (.ins A.C_AccessList dx ([(Str.ofString "_owner", o), (Str.ofString "_group", g), (Str.ofString "_other", t)] ++ [(Str.ofString "_users", .ref u)]))
    have K8 := K8 (.ins A.C_AccessList dx ([(Str.ofString "_owner", o), (Str.ofString "_group", g), (Str.ofString "_other", t)] ++ [(Str.ofString "_users", .ref u)]))
    generalize upd H7 p (.ins A.C_AccessList dx ([(Str.ofString "_owner", o), (Str.ofString "_group", g), (Str.ofString "_other", t)] ++ [(Str.ofString "_users", .ref u)])) = H8 at hp8 o8 g8 t8 dv8 hu8 K8 ⊢
    clear step k7 hp7 hu7 dvu nup o6 g6 t6 K6 hp6
    -- groups
    refine ⟨_, rfl, .inl ⟨rfl, NewO.mk fun s H9 ns k9 hs9 => ?_⟩⟩
    obtain ⟨ks, hks⟩ : ∃ ks : List (L2.Key × V), ks = [] := ⟨_, rfl⟩
    rw [← hks] at hs9
    have dvs : DV (IsR A H9) ks (sd c.gs) := by rw [hks, hgs, sd0]; exact .nil
    have ps : (sd c.gs).Perm c.gs := by rw [hgs, sd0]
    have hp9 := k9 _ _ hp8 (by simp)
    refine ⟨_, rfl, p, _, dx, _, rfl, hp9, T.cl_AccessList, T.na_AccessList__groups, by show 4 < 1000; decide, ?_⟩
    rw [putF_new (f := Str.ofString "_groups") (by simp; decide +kernel)]
    have nsp : s ≠ p := ne_of hs9 hp9 (fun z => by cases z)
    obtain ⟨fs5, hF5⟩ : ∃ fs5 : List (Str × V), fs5 = [(Str.ofString "_owner", o), (Str.ofString "_group", g), (Str.ofString "_other", t)] ++ [(Str.ofString "_users", .ref u)] ++ [(Str.ofString "_groups", .ref s)] := ⟨_, rfl⟩
    rw [← hF5]
    have c5 : Fso fs5 := by rw [hF5]; exact cons _ _
    have step : ∀ x d, IsR A H9 x d → IsR A (upd H9 p (.ins A.C_AccessList dx fs5)) x d := fun x d r => IsR.putP r hp9 (cons _ _)
    have hp10 : upd H9 p (.ins A.C_AccessList dx fs5) p = some (.ins A.C_AccessList dx fs5) := upd_same
    have o10 := step _ _ (IsR.keep o8 k9)
    have g10 := step _ _ (IsR.keep g8 k9)
    have t10 := step _ _ (IsR.keep t8 k9)
    have dv10 := (dv8.imp fun _ _ r => IsR.keep r k9).imp step
    have ds10 := dvs.imp step
    have hu10 : upd H9 p (.ins A.C_AccessList dx fs5) u = some (.dK ku) := by rw [upd_ne (ne_of (k9 _ _ hu8 (by simp)) hp9 (fun z => by cases z))]; exact k9 _ _ hu8 (by simp)
    have hs10 : upd H9 p (.ins A.C_AccessList dx fs5) s = some (.dK ks) := by rw [upd_ne nsp]; exact hs9
    have K10 : Keep [p] H (upd H9 p (.ins A.C_AccessList dx fs5)) := fun b x e nb => by
      rw [upd_ne (by simpa using nb)]
      exact k9 _ _ (K8 _ _ e nb) (by simp)
    generalize upd H9 p (.ins A.C_AccessList dx fs5) = H10 at hp10 o10 g10 t10 dv10 ds10 hu10 hs10 K10 ⊢
    clear step nsp k9 hp9 hs9 dvs o8 g8 t8 dv8 hu8 K8 hp8
    have fin : ∀ (H11 : Hp) (mv' : V), Keep [] H10 H11 → ((mv' = .non ∧ c.ma = none) ∨ ∃ d, c.ma = some d ∧ IsR A H11 mv' d) → Q .non (upd H11 p (.ins A.C_AccessList dx (putF (Str.ofString "_mask") mv' fs5))) := fun H11 mv' k11 hm' => by
      have hp11 := k11 _ _ hp10 (by simp)
      have eF : putF (Str.ofString "_mask") mv' fs5 = [(Str.ofString "_owner", o), (Str.ofString "_group", g), (Str.ofString "_other", t), (Str.ofString "_users", .ref u), (Str.ofString "_groups", .ref s), (Str.ofString "_mask", mv')] := by
        rw [putF_new (by rw [hF5]; simp; decide +kernel), hF5]
        rfl
      have step : ∀ x d, IsR A H10 x d → IsR A (upd H11 p (.ins A.C_AccessList dx (putF (Str.ofString "_mask") mv' fs5))) x d := fun x d r => IsR.putP (IsR.keep r k11) hp11 c5
      refine q _ (fun b x e nb => ?_) ⟨dx, o, g, t, mv', u, s, ku, ks, by rw [upd_same, eF], step _ _ o10, step _ _ g10, step _ _ t10, ?_, ?_, dv10.imp step, ds10.imp step, ?_⟩ pu ps
      · rw [upd_ne (by simpa using nb)]
        exact k11 _ _ (K10 _ _ e nb) (by simp)
      · rw [upd_ne (ne_of (k11 _ _ hu10 (by simp)) hp11 (fun z => by cases z))]
        exact k11 _ _ hu10 (by simp)
      · rw [upd_ne (ne_of (k11 _ _ hs10 (by simp)) hp11 (fun z => by cases z))]
        exact k11 _ _ hs10 (by simp)
      · rcases hm' with h | ⟨d, e, r⟩
        · exact .inl h
        · exact .inr ⟨d, e, IsR.putP r hp11 c5⟩
    have l5 : fs5.length < 1000 := by rw [hF5]; show 5 < 1000; decide
    have hlu : (sd c.us).length ≤ 6 := by rw [pu.length_eq]; exact ok.u.l6
    have hls : (sd c.gs).length ≤ 6 := by rw [ps.length_eq]; exact ok.s.l6
    refine ⟨_, rfl, rfl, _, rfl, ?_⟩
    refine ifT (decide_eq_true rfl) ?_
    refine ⟨_, rfl, p, dx, _, rfl, hp10, by rw [hF5]; rfl, ?_⟩
    refine ⟨p, dx, fs5, g, u, s, c.gr, ku, ks, sd c.us, sd c.gs, rfl, hp10, by rw [hF5]; rfl, by rw [hF5]; rfl, by rw [hF5]; rfl, g10, hu10, hs10, dv10, ds10, hlu, hls, ?_⟩
    have e0 : sd c.gs = [] := by rw [hgs, sd0]
    rcases hm with ⟨eu, hma⟩ | ⟨eu, hma⟩
    · refine .inl ⟨by rw [e0, eu, sd0]; rfl, fun H11 k11 => ?_⟩
      refine ⟨_, rfl, p, _, dx, _, rfl, k11 _ _ hp10 (by simp), T.cl_AccessList, T.na_AccessList__mask, l5, ?_⟩
      exact fin H11 .non k11 (.inl ⟨rfl, hma⟩)
    · refine .inr ⟨?_, fun x dx' H11 nx ndx k11 h11 => ?_⟩
      · rw [e0, List.append_nil]
        intro z
        have := pu.length_eq
        rw [z] at this
        exact eu (List.length_eq_zero_iff.mp this.symm)
      refine ⟨_, rfl, p, _, dx, _, rfl, k11 _ _ hp10 (by simp), T.cl_AccessList, T.na_AccessList__mask, l5, ?_⟩
      rw [e0, List.append_nil] at h11
      refine fin H11 (.ref x) k11 (.inr ⟨_, hma, x, dx', rfl, h11, ?_⟩)
      rcases ok.m with ⟨z, _⟩ | ⟨d, e, r⟩
      · rw [hma] at z; cases z
      · rw [hma] at e; cases e; exact r
end
end K51
namespace K51
open PySem PySem.Spec PyProof.Rows L2 FR TL
open C8 (pss_cut pe_gc)
open StX (pe_callS2 pa_star)
section
variable {P : Program} {w : World} {K : PySem.W.Frag} {mg : Str → Option Value} {base : Heap} {A : Ads}
set_option pp.maxSteps 120
/-- the number of a digit's sign -/
def dN (c : Nat) : Int := (c : Int) - 48
theorem dg_N : ∀ c : Fin 128, dg c.1 = true → PySem.intText? ⟨#[c.1]⟩ = some (dN c.1) ∧ 0 ≤ dN c.1 ∧ dN c.1 ≤ 7 := by decide +kernel
structure Tri (s : Str) (c1 c2 c3 : Nat) : Prop where
  b : okB (.str s) = true
  a : ascB (.str s) = true
  d : digs s = true
  t : tl s = [c1, c2, c3]
def New3 (A : Ads) (d1 d2 d3 : Int) (Q : VK) (H : Hp) : Prop := ∀ (p : Addr) (v1 v2 v3 : V) (H1 : Hp), Keep [] H H1 → H1 p = some (.lst [v1, v2, v3]) → IsR A H1 v1 d1 → IsR A H1 v2 d2 → IsR A H1 v3 d3 → Q (.ref p) H1
theorem ok__three_rights (T : Txt w K mg A) : FnOk P w K mg base CX0 6 A.f__three_rights A.d__three_rights ["digits"] (fun vs H Q _ => ∃ s c1 c2 c3, vs = [.str s] ∧ Tri s c1 c2 c3 ∧ New3 A (dN c1) (dN c2) (dN c3) Q H) := by
  refine T.F__three_rights.ok sc__three_rights (fun vs H Q E h => ?_) (fun cdv A_ outer s_ H vs Q E hr h => ?_)
  · obtain ⟨s, c1, c2, c3, rfl, _⟩ := h
    rfl
  · obtain ⟨s, c1, c2, c3, rfl, tr, q⟩ := h
    refine ⟨_, (pss_cons (ps_if (pt_not (pt_val (pe_call (ok_is_digits T) (hr.mono (by decide)) (by rfl) T.g_is_digits T.F_is_digits.kp T.B_is_digits .nil pass0 (pa_cons (pv 0) pa_nil)))) (pss_one ps_never) pss_nil)
  (pss_one (ps_ret (pe_lc (own := [("digit", 1)]) (g := gName 1) rfl sc__three_rights.nd (pi_str (pv 0)) (blkOk_by (own := [("digit", 1)]) (N := N__three_rights) (sc := defScope s__three_rights) (by decide +kernel)) (fun _ _ _ _ _ => pg_name (i := 1) sc__three_rights.nd rfl (Or.inl rfl)) (fun _ _ _ _ _ => pts_nil) (fun _ _ _ _ _ => (ClX.pe_cmeth (pe_gc rfl T.c_Rights) T.cr_Rights T.cm_Rights_from_digit ((ok_Rights_from_digit T).raw T.B_Rights_from_digit .nil) (hr.mono (by decide)) pass0 (pa_cons (pe_callTy call_int_str (by rfl) T.b_int (by decide +kernel) (pa_cons (pv 1) pa_nil)) pa_nil))))))), ?_⟩
    walk_at "rd"
    refine ⟨.str s, .str s, rfl, ⟨.str s, tr.b⟩, tr.a, fun H1 k1 => ?_⟩
    refine ⟨_, rfl, ?_⟩
    have hd := tr.d
    rw [show digB (.str s) = true from hd]
    refine ifF rfl ?_
    unfold digs at hd
    rw [Bool.and_eq_true, decide_eq_true_eq, List.all_eq_true] at hd
    obtain ⟨h3, hdg⟩ := hd
    have hlen := len_tl s
    have W1 : Ow H1 [] H1 [] := Ow.start0
    walk_at "rd"
    intro D hD
    refine lc_str (s := s) (fun pre H' => ∃ us : List V, Paired (fun u c => IsR A H' u (dN c)) us pre ∧ Ow H1 [] H' [(D, .lst us)]) ⟨[], .nil, W1.new hD⟩ ?_ ?_
    · rintro pre c post H8 e8 ⟨us, hus, W8⟩
      have hpre : pre.length < 3 := by
        have h2 : (tl s).length = pre.length + (post.length + 1) := by rw [e8, List.length_append, List.length_cons]
        omega
      have ul := Paired.length hus
      have hc : dg c = true := hdg c (by rw [e8]; simp)
      obtain ⟨hn, n0, n7⟩ := dg_N ⟨c, dg_lt hc⟩ hc
      walk_at "rd"
      refine ⟨⟨#[c]⟩, dN c, rfl, hn, Nat.le_of_ble_eq_true rfl, ?_⟩
      refine ⟨_, rfl, n0, n7, fun x dx H9 hx hdx k9 h9 => ?_⟩
      have W9 := W8.call0 k9
      have hD8 := W8.get 0 rfl
      have nx : x ≠ D := fun e => by rw [e, hD8] at hx; cases hx
      refine ⟨us, W9.get 0 rfl, size_ok (by omega), us ++ [.ref x], paired_snoc (Paired.mapP hus fun u e r => ?_) ?_, W9.set 0 rfl⟩
      · obtain ⟨a, dy, rfl, ea, r⟩ := r
        have na : a ≠ D := fun e => by rw [e, hD8] at ea; cases ea
        exact ⟨a, dy, rfl, by rw [upd_ne na]; exact k9 _ _ ea (by simp), r⟩
      · exact ⟨x, dx, rfl, by rw [upd_ne nx]; exact h9, n0, n7⟩
    · rintro H8 ⟨us, hus, W8⟩
      rw [tr.t] at hus
      cases hus with
      | cons r1 hus => cases hus with
        | cons r2 hus => cases hus with
          | cons r3 hus => cases hus with
            | nil => exact q D _ _ _ H8 (k1.trans W8.keep) (W8.get 0 rfl) r1 r2 r3
/-- digits alone -/
def accD (d1 d2 d3 : Int) : AcR := ⟨d1, d2, d3, [], [], none⟩
theorem bd_AccessList___init___3 (T : Txt w K mg A) : Vals [.non, .non, .non] [.none, .none, .none] ∧ Binds K A.d_AccessList___init__ ["self", "owner", "group", "other", "users", "groups", "mask"] [.none, .none, .none] := by
  obtain ⟨ds, h1, h2⟩ := T.F_AccessList___init__.binds0 (ps := ["self", "owner", "group", "other", "users", "groups", "mask"]) 4 (by simp) rfl fun D doc pm an cdv ct us its h1 h2 => match us, its, h1, h2 with
    | [_, _, _, _], [_, _, _], _, _ => ⟨_, _, _, _, _, _, rfl, rfl, ⟨_, _, _, _, _, _, rfl, rfl, ⟨_, _, _, _, _, _, rfl, rfl, rfl⟩⟩⟩
  match ds, h1, h2 with
  | [_, _, _], .cons a (.cons b (.cons c .nil)), h2 =>
    cases a
    cases b
    cases c
    exact ⟨.cons rfl (.cons rfl (.cons rfl .nil)), h2⟩
theorem dg_nil : Dg [] where
  l6 := by simp
  us := fun e h => by cases h
  nd := List.nodup_nil
  ds := fun e h => by cases h
def NewA (A : Ads) (c : AcR) (Q : VK) (H : Hp) : Prop := ∀ (x : Addr) (H1 : Hp), H x = none → Keep [] H H1 → AL A H1 x c → (sd c.us).Perm c.us → (sd c.gs).Perm c.gs → Q (.ref x) H1
theorem ok_AccessList_plain (T : Txt w K mg A) : FnOk P w K mg base CX0 12 A.f_AccessList_plain A.d_AccessList_plain ["cls", "digits"] (fun vs H Q _ => ∃ s c1 c2 c3, vs = [.ref A.C_AccessList, .str s] ∧ Tri s c1 c2 c3 ∧ NewA A (accD (dN c1) (dN c2) (dN c3)) Q H) := by
  refine T.F_AccessList_plain.ok sc_AccessList_plain (fun vs H Q E h => ?_) (fun cdv A_ outer s_ H vs Q E hr h => ?_)
  · obtain ⟨s, c1, c2, c3, rfl, _⟩ := h
    rfl
  · obtain ⟨s, c1, c2, c3, rfl, tr, q⟩ := h
    refine ⟨_, (pss_cons (ps_asg (pe_call (ok__three_rights T) (hr.mono (by decide)) (by rfl) T.g__three_rights T.F__three_rights.kp T.B__three_rights .nil pass0 (pa_cons (pv 1) pa_nil)) (pg_unl rfl (pgs_cons (pg_name (i := 2) sc_AccessList_plain.nd rfl (.inl rfl)) (pgs_cons (pg_name (i := 3) sc_AccessList_plain.nd rfl (.inl rfl)) (pgs_cons (pg_name (i := 4) sc_AccessList_plain.nd rfl (.inl rfl)) pgs_nil)))))
  (pss_one (ps_ret (pe_makeL (pv 0) T.mk_AccessList (ok_AccessList___init__ T) (hr.mono (by decide)) (bd_AccessList___init___3 T).2 (bd_AccessList___init___3 T).1 pass0 (pa_cons (pv 2) (pa_cons (pv 3) (pa_cons (pv 4) pa_nil))))))), ?_⟩
    walk_at "rd"
    refine ⟨s, c1, c2, c3, rfl, tr, ?_⟩
    intro p v1 v2 v3 H1 k1 hp r1 r2 r3
    refine ⟨p, _, rfl, .inl (.inl hp), rfl, ?_⟩
    walk_at "rd"
    refine ⟨rfl, ?_⟩
    refine ⟨_, rfl, _, rfl, _, rfl, ?_⟩
    intro x dx hx hdx hne
    have k2 : Keep [] H1 (upd (upd H1 dx (.own x)) x (.ins A.C_AccessList dx [])) := fun b u e _ => by
      rw [upd_ne (ne_of_none e hx), upd_ne (ne_of_none e hdx)]
      exact e
    refine ⟨x, dx, v1, v2, v3, .non, accD (dN c1) (dN c2) (dN c3), rfl, upd_same, .inl (r1.keep k2), .inl (r2.keep k2), .inl (r3.keep k2), .inl ⟨rfl, rfl⟩, rfl, .inl ⟨rfl, rfl⟩, ?_, fun H3 k3 al pu pg => ⟨rfl, ?_⟩⟩
    · obtain ⟨_, _, _, _, i1⟩ := r1
      obtain ⟨_, _, _, _, i2⟩ := r2
      obtain ⟨_, _, _, _, i3⟩ := r3
      exact ⟨i1, i2, i3, dg_nil, dg_nil, .inl ⟨rfl, rfl, rfl⟩⟩
    · exact q x H3 (k1.free hx) (k1.trans (keep_of_new Keep.refl hx hdx k3)) al pu pg
theorem kb_AccessList (T : Txt w K mg A) : ∃ mv : List Value, KBn K A.d_AccessList___init__ ["self", "owner", "group", "other", "users", "groups", "mask"] 4 ["users"] (fun us ws => us ++ ws ++ mv) (fun vs zs => vs ++ zs ++ [V.non, V.non]) :=
  FR.kb0 (ps := ["self", "owner", "group", "other", "users", "groups", "mask"]) T.F_AccessList___init__ 4 ["users"] [("groups", .non), ("mask", .non)] (fun us mv ws => us ++ ws ++ mv) (by simp) (by simp) (fun a b c => (a.append c).append b) fun D doc pm an cdv ct us mv ws h1 h2 h3 => match us, mv, ws, h1, h2, h3 with
    | [_, _, _, _], [_, _], [_], _, _, _ => ⟨_, _, _, _, _, _, rfl, rfl, ⟨_, _, _, _, _, _, rfl, rfl, rfl⟩⟩
end
end K51
namespace K51
open PySem PySem.Spec PyProof.Rows L2 FR TL
open C8 (pss_cut pe_gc)
open StX (pe_callS2 pa_star)
def sO (s : String) : Str := Str.ofString s
/-- one entry as it is told -/
abbrev Tr := List (Str × Str × Int)
def EV (A : Ads) (H : Hp) (v : V) (e : Str × Str × Int) : Prop := ∃ t x, v = .ref t ∧ H t = some (.tup [.str e.1, .str e.2.1, x]) ∧ IsR A H x e.2.2
theorem EV.keep {A : Ads} {H H' : Hp} {v : V} {e : Str × Str × Int} (h : EV A H v e) (k : Keep [] H H') : EV A H' v e := by
  obtain ⟨t, x, rfl, h, r⟩ := h
  exact ⟨t, x, rfl, k _ _ h (by simp), r.keep k⟩
theorem EV.put {A : Ads} {H : Hp} {D : Addr} {xs : List V} {o' : HO} {v : V} {e : Str × Str × Int} (r : EV A H v e) (h : H D = some (.lst xs)) : EV A (upd H D o') v e := by
  obtain ⟨q, x, rfl, hq, r⟩ := r
  exact ⟨q, x, rfl, by rw [upd_ne (ne_of hq h fun z => by cases z)]; exact hq, r.put h fun _ _ _ z => by cases z⟩
def EL (A : Ads) (H : Hp) (l : Addr) (ps : Tr) : Prop := ∃ vs, H l = some (.lst vs) ∧ Paired (EV A H) vs ps
theorem EL.keep {A : Ads} {H H' : Hp} {l : Addr} {ps : Tr} (h : EL A H l ps) (k : Keep [] H H') : EL A H' l ps := by
  obtain ⟨vs, h, p⟩ := h
  exact ⟨vs, k _ _ h (by simp), Paired.mapP p fun _ _ r => r.keep k⟩
theorem EL.cat {A : Ads} {H : Hp} {a b : Addr} {ps qs : Tr} {Q : VK} (ha : EL A H a ps) (hb : EL A H b qs) (l : ps.length + qs.length ≤ 1000) (q : ∀ p H', Keep [] H H' → H p = none → EL A H' p (ps ++ qs) → Q (.ref p) H') : rCatN (.ref a) (.ref b) H Q := by
  obtain ⟨xs, h1, p1⟩ := ha
  obtain ⟨ys, h2, p2⟩ := hb
  have l1 := Paired.length p1
  have l2 := Paired.length p2
  refine ⟨a, b, xs, ys, rfl, rfl, h1, h2, size_le (by omega), NewO.mk fun p H' n k h => ?_⟩
  exact q p H' k n ⟨_, h, paired_app (Paired.mapP p1 fun _ _ r => r.keep k) (Paired.mapP p2 fun _ _ r => r.keep k)⟩
theorem one_EL {A : Ads} {H1 H2 : Hp} {t l : Addr} {a b : Str} {x : V} {d : Int} (r : IsR A H1 x d) (h1 : H1 t = some (.tup [.str a, .str b, x])) (k2 : Keep [] H1 H2) (h2 : H2 l = some (.lst [.ref t])) : EL A H2 l [(a, b, d)] := ⟨_, h2, .cons ⟨t, x, rfl, k2 _ _ h1 (by simp), r.keep k2⟩ .nil⟩
noncomputable def namesE (k : String) (m : Dm) : Tr := (srt (m.map (·.1))).map fun n => (sO k, n, dd m n)
def maskE (c : AcR) : Tr := match c.ma with | none => [] | some d => [(sO "mask", sO "", d)]
noncomputable def entOf (c : AcR) : Tr := [(sO "owner", sO "", c.ow)] ++ namesE "user" c.us ++ [(sO "group", sO "", c.gr)] ++ namesE "named" c.gs ++ maskE c ++ [(sO "other", sO "", c.ot)]
theorem sd_keys {m : Dm} : (sd m).map (·.1) = srt (m.map (·.1)) := by
  unfold sd
  rw [List.map_map]
  exact List.map_id _
theorem take_mapP {ts : List Str} {i : Nat} {e : Str} {α : Type} {f : Str → α} (h : ts[i]? = some e) : (ts.take (i + 1)).map f = (ts.take i).map f ++ [f e] := by
  rw [List.take_add_one, h, List.map_append]
  rfl
section
variable {P : Program} {w : World} {K : PySem.W.Frag} {mg : Str → Option Value} {base : Heap} {A : Ads}
set_option pp.maxSteps 400
def spEntries (A : Ads) : Sp := fun vs H Q _ => ∃ p c, vs = [.ref p] ∧ AL A H p c ∧ AccOk c ∧ (sd c.us).Perm c.us ∧ (sd c.gs).Perm c.gs ∧ ∀ l H', H l = none → Keep [] H H' → EL A H' l (entOf c) → Q (.ref l) H'
theorem ok_AccessList_entries (T : Txt w K mg A) : FnOk P w K mg base CX0 1 A.f_AccessList_entries A.d_AccessList_entries ["self"] (spEntries A) := by
  refine T.F_AccessList_entries.ok sc_AccessList_entries (fun vs H Q E h => ?_) (fun cdv A_ outer s_ H vs Q E hr h => ?_)
  · obtain ⟨p, c, rfl, _⟩ := h
    rfl
  · obtain ⟨p, c, rfl, ⟨dx, o, g, t, mv, us, gs, ku, kg, hA⟩, ok, pu, pg, q⟩ := h
    refine ⟨_, (pss_cons (ps_set (i := 1) sc_AccessList_entries.nd rfl (.inl rfl) (pe_ifExp (pt_cmpR op_isN (pe_fld (pv 0) rfl) pe_non (nomark _)) (pe_lstS pa_nil) (pe_lstS (pa_cons (pe_tupN (pa_cons pe_str (pa_cons pe_str (pa_cons (pe_fld (pv 0) rfl) pa_nil)))) pa_nil))))
  (pss_one (ps_ret (pe_op op_catN (pe_op op_catN (pe_op op_catN (pe_op op_catN (pe_op op_catN (pe_lstS (pa_cons (pe_tupN (pa_cons pe_str (pa_cons pe_str (pa_cons (pe_fld (pv 0) rfl) pa_nil)))) pa_nil)) (pe_lc (own := [("name", 2)]) (g := gName 2) rfl sc_AccessList_entries.nd (pi_list (pe_callB (call_sortedD rfl) (by rfl) T.b_sorted (by decide +kernel) (pa_cons (pe_fld (pv 0) rfl) pa_nil))) (blkOk_by (own := [("name", 2)]) (N := N_AccessList_entries) (sc := defScope s_AccessList_entries) (by decide +kernel)) (fun _ _ _ _ _ => pg_name (i := 2) sc_AccessList_entries.nd rfl (Or.inl rfl)) (fun _ _ _ _ _ => pts_nil) (fun _ _ _ _ _ => (pe_tupN (pa_cons pe_str (pa_cons (pv 2) (pa_cons (pe_dget (hu_of hr) (pe_fldK (K := K) rfl (pv 0) (by rfl)) (pv 2) (fun _ _ => rfl)) pa_nil))))))) (pe_lstS (pa_cons (pe_tupN (pa_cons pe_str (pa_cons pe_str (pa_cons (pe_fld (pv 0) rfl) pa_nil)))) pa_nil))) (pe_lc (own := [("name", 2)]) (g := gName 2) rfl sc_AccessList_entries.nd (pi_list (pe_callB (call_sortedD rfl) (by rfl) T.b_sorted (by decide +kernel) (pa_cons (pe_fld (pv 0) rfl) pa_nil))) (blkOk_by (own := [("name", 2)]) (N := N_AccessList_entries) (sc := defScope s_AccessList_entries) (by decide +kernel)) (fun _ _ _ _ _ => pg_name (i := 2) sc_AccessList_entries.nd rfl (Or.inl rfl)) (fun _ _ _ _ _ => pts_nil) (fun _ _ _ _ _ => (pe_tupN (pa_cons pe_str (pa_cons (pv 2) (pa_cons (pe_dget (hu_of hr) (pe_fldK (K := K) rfl (pv 0) (by rfl)) (pv 2) (fun _ _ => rfl)) pa_nil))))))) (pv 1)) (pe_lstS (pa_cons (pe_tupN (pa_cons pe_str (pa_cons pe_str (pa_cons (pe_fld (pv 0) rfl) pa_nil)))) pa_nil)))))), ?_⟩
    have main : ∀ F : VK, (∀ lm H1, H lm = none → Keep [] H H1 → EL A H1 lm (maskE c) → F (.ref lm) H1) → (tIf (tTest (tOp (fun x y H Q => y = V.non ∧ Q (V.bl (decide (x = V.non))) H) (tFld K (tVar 0) (Str.ofString "_mask")) (tC V.non))) (tLstS tNil) (tLstS (tCons (tTupN (tCons (tC (V.str (Str.ofString "mask"))) (tCons (tC (V.str (Str.ofString ""))) (tCons (tFld K (tVar 0) (Str.ofString "_mask")) tNil)))) tNil))) (L2.start N_AccessList_entries [V.ref p]) H F := fun F hF => by
      refine ⟨_, rfl, p, _, dx, _, _, rfl, hA.ob, T.cl_AccessList, T.na_AccessList__mask, rfl, rfl, _, rfl, ?_⟩
      rcases hA.hm with ⟨rfl, e⟩ | ⟨d, e, r⟩
      · refine ifT (decide_eq_true rfl) ?_
        refine ⟨Nat.zero_le _, NewS.mk fun l1 H1 n1 s1 k1 h1 => ?_⟩
        refine hF l1 H1 n1 k1 ⟨[], h1, ?_⟩
        unfold maskE
        rw [e]
        exact .nil
      · refine ifF (decide_eq_false fun z => by obtain ⟨_, _, e2, _⟩ := r; rw [e2] at z; cases z) ?_
        refine ⟨_, rfl, p, _, dx, _, _, rfl, hA.ob, T.cl_AccessList, T.na_AccessList__mask, rfl, ?_⟩
        refine ⟨(show 3 ≤ sizeLine by decide), NewO.mk fun t1 H1 n1 k1 h1 => ?_⟩
        refine ⟨(show 1 ≤ sizeLine by decide), NewS.mk fun l2 H2 n2 s2 k2 h2 => ?_⟩
        refine hF l2 H2 (k1.free n2) (k1.trans k2) ?_
        unfold maskE
        rw [e]
        exact one_EL (r.keep k1) h1 k2 h2
    refine main _ fun lm H1 nlm k1 em => ?_
    clear main
    have hA1 := hA.keep k1
    have l6s3 := ok.u.l6
    have l6s5 := ok.s.l6
    refine ⟨_, rfl, p, _, dx, _, _, rfl, hA1.ob, T.cl_AccessList, T.na_AccessList__owner, rfl, ?_⟩
    refine ⟨(show 3 ≤ sizeLine by decide), NewO.mk fun t2 Ht2 nt2 kt2 ht2 => ?_⟩
    refine ⟨(show 1 ≤ sizeLine by decide), NewS.mk fun l2 H2 nl2 sl2 kl2 hl2 => ?_⟩
    have e2 : EL A H2 l2 [(sO "owner", sO "", c.ow)] := one_EL (hA1.ho.keep kt2) ht2 kl2 hl2
    have k2 := kt2.trans kl2
    have hA2 := hA1.keep k2
    refine ⟨_, rfl, p, _, dx, _, _, rfl, hA2.ob, T.cl_AccessList, T.na_AccessList__users, rfl, us, ku, (sd c.us).map (·.1), rfl, .inl hA2.hu, hA2.du.keys, by rw [List.length_map, (pu).length_eq]; omega, fun yss3 lys3 pys3 sys3 ns3 => ?_⟩
    have eys3 : yss3 = srt (c.us.map (·.1)) := by
      rw [sd_keys] at pys3
      exact srt_eq (pys3.trans ((sd_keys (m := c.us)) ▸ (pu.map (·.1)))) sys3
    have lyss3 : yss3.length ≤ 6 := by
      rw [pys3.length_eq, List.length_map, (pu).length_eq]
      exact l6s3
    have ks3 := keep_new (o := .lst (yss3.map V.str)) ns3
    have hs3 : upd H2 lys3 (.lst (yss3.map V.str)) lys3 = some (.lst (yss3.map V.str)) := upd_same
    generalize upd H2 lys3 (.lst (yss3.map V.str)) = Hss3 at ks3 hs3 ⊢
    have hAss3 := hA2.keep ks3
    refine ⟨lys3, rfl, ⟨_, .inl (.inl hs3)⟩, fun D hD => ?_⟩
    refine lc_it (walk_list (xs := yss3.map V.str)) (fun i H' => Keep [] Hss3 H' ∧ EL A H' D ((yss3.take i).map fun n => (sO "user", n, dd c.us n))) ⟨keep_new hD, [], upd_same, .nil⟩ (fun i H' _ h => .inl (.inl (h.1 _ _ hs3 (by simp)))) (fun i v H5 H6 hi h5 y5 => ?_) (fun H5 h5 => ?_)
    · obtain ⟨rfl, hx⟩ := y5
      obtain ⟨k5, vs, h5, pv⟩ := h5
      rw [List.getElem?_map] at hx
      obtain ⟨n, hn, rfl⟩ := Option.map_eq_some_iff.mp hx
      have hA5 := hAss3.keep k5
      rcases hA5.du.val n with ⟨_, _, e3⟩ | ⟨v, d, e1', e2', hv, _⟩
      · exact absurd (pys3.mem_iff.mp (List.mem_of_getElem? hn)) e3
      have ddv : dd c.us n = d := by
        unfold dd
        rw [← dget_perm ok.u.nd pu, e2']
        rfl
      refine ⟨rfl, ?_⟩
      refine ⟨_, rfl, _, rfl, p, _, dx, _, _, rfl, hA5.ob, T.cl_AccessList, T.na_AccessList__users, rfl, _, rfl, us, _, rfl, .inl ⟨ku, Sum.inr n, .inl hA5.hu, rfl, e1'.symm⟩, ?_⟩
      refine ⟨(show 3 ≤ sizeLine by decide), NewO.mk fun t7 H7 n7 k7 h7 => ?_⟩
      have hD7 := k7 _ _ h5 (by simp)
      have lvs : vs.length ≤ 6 := by
        rw [Paired.length pv, List.length_map]
        have := List.length_take_le' i yss3
        omega
      refine ⟨_, hD7, size_ok (by omega), keep_free (k5.trans k7) hD, vs ++ [.ref t7], upd_same, ?_⟩
      rw [take_mapP hn]
      exact paired_snoc (Paired.mapP pv fun _ _ r => EV.put (EV.keep r k7) hD7) (EV.put ⟨t7, _, rfl, h7, by rw [ddv]; exact hv.keep k7⟩ hD7)
    obtain ⟨kcs3, hcs3⟩ := h5
    rw [List.length_map, List.take_length, eys3] at hcs3
    change EL A H5 D (namesE "user" c.us) at hcs3
    have kxs3 := ks3.trans kcs3
    have hAcs3 := hA2.keep kxs3
    clear hD
    refine EL.cat (e2.keep kxs3) hcs3 (by rw [List.length_singleton]; unfold namesE; rw [List.length_map, ← eys3]; omega) fun l3 H3 k3 nl3 el3 => ?_
    have hA3 := hAcs3.keep k3
    refine ⟨_, rfl, p, _, dx, _, _, rfl, hA3.ob, T.cl_AccessList, T.na_AccessList__group, rfl, ?_⟩
    refine ⟨(show 3 ≤ sizeLine by decide), NewO.mk fun t4 Ht4 nt4 kt4 ht4 => ?_⟩
    refine ⟨(show 1 ≤ sizeLine by decide), NewS.mk fun l4 H4 nl4 sl4 kl4 hl4 => ?_⟩
    have e4 : EL A H4 l4 [(sO "group", sO "", c.gr)] := one_EL (hA3.hg.keep kt4) ht4 kl4 hl4
    have k4 := kt4.trans kl4
    have hA4 := hA3.keep k4
    refine EL.cat (el3.keep k4) e4 (by rw [List.length_append, List.length_singleton, List.length_singleton]; unfold namesE; rw [List.length_map, ← eys3]; omega) fun l5 H5' k5' nl5 el5 => ?_
    have hA5' := hA4.keep k5'
    clear hcs3 el3 e2 e4
    refine ⟨_, rfl, p, _, dx, _, _, rfl, hA5'.ob, T.cl_AccessList, T.na_AccessList__groups, rfl, gs, kg, (sd c.gs).map (·.1), rfl, .inl hA5'.hs, hA5'.ds.keys, by rw [List.length_map, (pg).length_eq]; omega, fun yss5 lys5 pys5 sys5 ns5 => ?_⟩
    have eys5 : yss5 = srt (c.gs.map (·.1)) := by
      rw [sd_keys] at pys5
      exact srt_eq (pys5.trans ((sd_keys (m := c.gs)) ▸ (pg.map (·.1)))) sys5
    have lyss5 : yss5.length ≤ 6 := by
      rw [pys5.length_eq, List.length_map, (pg).length_eq]
      exact l6s5
    have ks5 := keep_new (o := .lst (yss5.map V.str)) ns5
    have hs5 : upd H5' lys5 (.lst (yss5.map V.str)) lys5 = some (.lst (yss5.map V.str)) := upd_same
    generalize upd H5' lys5 (.lst (yss5.map V.str)) = Hss5 at ks5 hs5 ⊢
    have hAss5 := hA5'.keep ks5
    refine ⟨lys5, rfl, ⟨_, .inl (.inl hs5)⟩, fun D hD => ?_⟩
    refine lc_it (walk_list (xs := yss5.map V.str)) (fun i H' => Keep [] Hss5 H' ∧ EL A H' D ((yss5.take i).map fun n => (sO "named", n, dd c.gs n))) ⟨keep_new hD, [], upd_same, .nil⟩ (fun i H' _ h => .inl (.inl (h.1 _ _ hs5 (by simp)))) (fun i v H5 H6 hi h5 y5 => ?_) (fun H5 h5 => ?_)
    · obtain ⟨rfl, hx⟩ := y5
      obtain ⟨k5, vs, h5, pv⟩ := h5
      rw [List.getElem?_map] at hx
      obtain ⟨n, hn, rfl⟩ := Option.map_eq_some_iff.mp hx
      have hA5 := hAss5.keep k5
      rcases hA5.ds.val n with ⟨_, _, e3⟩ | ⟨v, d, e1', e2', hv, _⟩
      · exact absurd (pys5.mem_iff.mp (List.mem_of_getElem? hn)) e3
      have ddv : dd c.gs n = d := by
        unfold dd
        rw [← dget_perm ok.s.nd pg, e2']
        rfl
      refine ⟨rfl, ?_⟩
      refine ⟨_, rfl, _, rfl, p, _, dx, _, _, rfl, hA5.ob, T.cl_AccessList, T.na_AccessList__groups, rfl, _, rfl, gs, _, rfl, .inl ⟨kg, Sum.inr n, .inl hA5.hs, rfl, e1'.symm⟩, ?_⟩
      refine ⟨(show 3 ≤ sizeLine by decide), NewO.mk fun t7 H7 n7 k7 h7 => ?_⟩
      have hD7 := k7 _ _ h5 (by simp)
      have lvs : vs.length ≤ 6 := by
        rw [Paired.length pv, List.length_map]
        have := List.length_take_le' i yss5
        omega
      refine ⟨_, hD7, size_ok (by omega), keep_free (k5.trans k7) hD, vs ++ [.ref t7], upd_same, ?_⟩
      rw [take_mapP hn]
      exact paired_snoc (Paired.mapP pv fun _ _ r => EV.put (EV.keep r k7) hD7) (EV.put ⟨t7, _, rfl, h7, by rw [ddv]; exact hv.keep k7⟩ hD7)
    obtain ⟨kcs5, hcs5⟩ := h5
    rw [List.length_map, List.take_length, eys5] at hcs5
    change EL A H5 D (namesE "named" c.gs) at hcs5
    have kxs5 := ks5.trans kcs5
    have hAcs5 := hA5'.keep kxs5
    clear hD
    refine EL.cat (el5.keep kxs5) hcs5 (by rw [List.length_append, List.length_append, List.length_singleton, List.length_singleton]; unfold namesE; rw [List.length_map, List.length_map, ← eys3, ← eys5]; omega) fun l6 H6 k6 nl6 el6 => ?_
    have K6 : Keep [] H1 H6 := (((((k2.trans kxs3).trans k3).trans k4).trans k5').trans kxs5).trans k6
    refine ⟨_, rfl, ?_⟩
    have lm1 : (maskE c).length ≤ 1 := by
      unfold maskE
      split <;> simp
    refine EL.cat el6 (em.keep K6) (by rw [List.length_append, List.length_append, List.length_append, List.length_singleton, List.length_singleton]; unfold namesE; rw [List.length_map, List.length_map, ← eys3, ← eys5]; omega) fun l7 H7 k7 nl7 el7 => ?_
    have hA7 := (hAcs5.keep k6).keep k7
    refine ⟨_, rfl, p, _, dx, _, _, rfl, hA7.ob, T.cl_AccessList, T.na_AccessList__other, rfl, ?_⟩
    refine ⟨(show 3 ≤ sizeLine by decide), NewO.mk fun t8 Ht8 nt8 kt8 ht8 => ?_⟩
    refine ⟨(show 1 ≤ sizeLine by decide), NewS.mk fun l8 H8 nl8 sl8 kl8 hl8 => ?_⟩
    have e8 : EL A H8 l8 [(sO "other", sO "", c.ot)] := one_EL (hA7.ht.keep kt8) ht8 kl8 hl8
    have k8 := kt8.trans kl8
    have hA8 := hA7.keep k8
    refine EL.cat (el7.keep k8) e8 (by rw [List.length_append, List.length_append, List.length_append, List.length_append, List.length_singleton, List.length_singleton, List.length_singleton]; unfold namesE; rw [List.length_map, List.length_map, ← eys3, ← eys5]; omega) fun l9 H9 k9 nl9 el9 => ?_
    have KA : Keep [] H H9 := (((k1.trans K6).trans k7).trans k8).trans k9
    exact q l9 H9 ((((k1.trans K6).trans k7).trans k8).free nl9) KA el9
end
end K51
namespace K51
open PySem PySem.Spec PyProof.Rows L2 FR TL
open C8 (pss_cut pe_gc)
open StX (pe_callS2 pa_star)
/-! ### == of rights, of entries, of access lists -/
theorem isR_fun {A : Ads} {H : Hp} {v : V} {d d' : Int} (h : IsR A H v d) (h' : IsR A H v d') : d = d' := by
  obtain ⟨a, dx, rfl, ha, _⟩ := h
  obtain ⟨b, dy, e, hb, _⟩ := h'
  cases e
  rw [ha] at hb
  unfold RgO at hb
  cases hb
  rfl
theorem IsR.ext {A : Ads} {H H' : Hp} {v : V} {d : Int} (h : IsR A H v d) (e : Ext H H') : IsR A H' v d := h.keep (Keep.of_same e)
theorem strEq (a b : Str) : eqV (.str a) (.str b) = decide (a = b) := by
  show (a == b) = _
  by_cases c : a = b
  · rw [decide_eq_true c]; exact beq_iff_eq.mpr c
  · rw [decide_eq_false c]; exact beq_eq_false_iff_ne.mpr c
def RR (A : Ads) (a : Addr) (y : V) (r : Bool) (H : Hp) : Prop := ∃ d d', IsR A H (.ref a) d ∧ IsR A H y d' ∧ decide (d = d') = r
theorem RR.mono {A : Ads} (a : Addr) (y : V) (r : Bool) (H H' : Hp) (e : Ext H H') (h : RR A a y r H) : RR A a y r H' := let ⟨d, d', h1, h2, er⟩ := h; ⟨d, d', h1.ext e, h2.ext e, er⟩
def DEl (K : PySem.W.Frag) (A : Ads) : Eqb := fun x y r H => BFlat x y r H ∨ BOwn K A.C_Rights (RR A) x y r H
theorem monB_el {K : PySem.W.Frag} {A : Ads} : MonB (DEl K A) := monB_flat.or (monB_own RR.mono)
theorem RcB.imp {X : Cx} {n : Nat} {D D' : Eqb} (h : RcB X n D) (hd : ∀ x y r H, D' x y r H → D x y r H) : RcB X n D' := fun A pins s σ H x y r u v sb I rx ry d => h A pins s σ H x y r u v sb I rx ry (hd x y r H d)
section
variable {X : Cx} {A : Ads} {CX : CXT} {E : XK} {n : Nat} {g : Addr}
theorem eqB_el (hs : PySem.W.findIn X.K (.ref A.C_Rights) "__eq__" = some (some (.ref g))) (hf : PySem.W.isFn X.K (.ref g) = true) (F : FnR X.prog X.w X.K X.mg X.base CX n g (fun vs H Q E => spEq A (vs ++ []) H Q E)) (hx : Passes CX X E) : EqB X n (DEl X.K A) := by
  have F2 : FnR X.prog X.w X.K X.mg X.base CX n g (spEqB (RR A)) := F.imp fun vs H Q E h => by
    obtain ⟨a, y, r, rfl, ⟨d, d', h1, h2, e⟩, q⟩ := h
    exact ⟨_, d, _, d', rfl, h1, h2, by rw [e]; exact q H Ext.rfl'⟩
  refine ((eqB_flat (X := X)).mono (Nat.zero_le n)).or ((rcB_own hs hf F2 hx).eqB ?_)
  rintro x y r H ⟨a, dx, fs, t, rfl, ha, ty, nf, d, d', h1, h2, e⟩
  obtain ⟨b, dy, rfl, hb, _⟩ := id h2
  by_cases c : a = b
  · subst c
    exact .inl ⟨a, rfl, rfl, by rw [← e, isR_fun h1 h2]; simp⟩
  · exact .inr (.inl ⟨a, b, rfl, rfl, c⟩)
/-- two entries -/
def DTp (K : PySem.W.Frag) (A : Ads) : Eqb := fun x y r H => C8.InsC K A.C_Rights ∧ ∃ e e', EV A H x e ∧ EV A H y e' ∧ decide (e = e') = r
theorem monB_tp {K : PySem.W.Frag} : MonB (DTp K A) := fun x y r H H' e ⟨ic, a, b, h1, h2, er⟩ => ⟨ic, a, b, h1.keep (Keep.of_same e), h2.keep (Keep.of_same e), er⟩
theorem bflat_str {a b : Str} {H : Hp} : BFlat (.str a) (.str b) (decide (a = b)) H := .inl ⟨rfl, rfl, strEq a b⟩
theorem el_rt {K : PySem.W.Frag} {H : Hp} {x y : V} {d d' : Int} (ic : C8.InsC K A.C_Rights) (h1 : IsR A H x d) (h2 : IsR A H y d') : BOwn K A.C_Rights (RR A) x y (decide (d = d')) H := by
  obtain ⟨a, dx, rfl, ha, r⟩ := id h1
  obtain ⟨b, dy, rfl, hb, r'⟩ := id h2
  refine ⟨a, dx, _, .ref A.C_Rights, rfl, ha, fun H' e => TyX.base (.ins (e _ _ hb) ic.cl ic.ha ic.hn ic.htk ic.hm), by unfold PySem.W.notFirst; simp, d, d', h1, h2, rfl⟩
theorem tp_of {K : PySem.W.Frag} {x y : V} {r : Bool} {H : Hp} (h : DTp K A x y r H) : BTup K (DEl K A) x y r H := by
  obtain ⟨ic, ⟨k, n, d⟩, ⟨k', n', d'⟩, ⟨t, z, rfl, ht, hz⟩, ⟨t', z', rfl, ht', hz'⟩, e⟩ := h
  refine ⟨t, t', _, _, rfl, rfl, .inl (.of ht), .inl (.of ht'), ?_⟩
  have := PrsB.cons (D := DEl K A) (.inl (bflat_str (a := k) (b := k') (H := H))) (PrsB.cons (.inl (bflat_str (a := n) (b := n'))) (PrsB.cons (.inr (el_rt ic hz hz')) PrsB.nil))
  have er : (decide (k = k') && (decide (n = n') && (decide (d = d') && true))) = r := by
    rw [← e, Bool.eq_iff_iff]
    simp
  rw [← er]
  exact this
theorem eqB_tp (hs : PySem.W.findIn X.K (.ref A.C_Rights) "__eq__" = some (some (.ref g))) (hf : PySem.W.isFn X.K (.ref g) = true) (F : FnR X.prog X.w X.K X.mg X.base CX n g (fun vs H Q E => spEq A (vs ++ []) H Q E)) (hx : Passes CX X E) : EqB X (n + 1) (DTp X.K A) := by
  refine (RcB.imp (rcB_tup monB_el (eqB_el hs hf F hx)) fun x y r H => tp_of).eqB ?_
  rintro x y r H ⟨ic, ⟨k, n, d⟩, ⟨k', n', d'⟩, ⟨t, z, rfl, ht, hz⟩, ⟨t', z', rfl, ht', hz'⟩, e⟩
  by_cases c : t = t'
  · subst c
    refine .inl ⟨t, rfl, rfl, ?_⟩
    rw [ht] at ht'
    cases ht'
    obtain rfl := isR_fun hz hz'
    rw [← e]
    simp
  · exact .inr (.inl ⟨t, t', rfl, rfl, c⟩)
theorem rcB_ent (hs : PySem.W.findIn X.K (.ref A.C_Rights) "__eq__" = some (some (.ref g))) (hf : PySem.W.isFn X.K (.ref g) = true) (F : FnR X.prog X.w X.K X.mg X.base CX n g (fun vs H Q E => spEq A (vs ++ []) H Q E)) (hx : Passes CX X E) : RcB X (n + 2) (BList (DTp X.K A)) := rcB_list monB_tp (eqB_tp hs hf F hx)
theorem prs_ents {K : PySem.W.Frag} {H : Hp} (ic : C8.InsC K A.C_Rights) : ∀ {vs ws : List V} {ts us : Tr}, Paired (EV A H) vs ts → Paired (EV A H) ws us → ts.length = us.length → PrsB (DTp K A) vs ws (decide (ts = us)) H
  | _, _, [], [], .nil, .nil, _ => by
    rw [decide_eq_true (rfl : ([] : Tr) = [])]
    exact PrsB.nil
  | _, _, e :: ts, e' :: us, .cons h hr, .cons h' hr', hl => by
    have := PrsB.cons (D := DTp K A) ⟨ic, e, e', h, h', rfl⟩ (prs_ents ic hr hr' (by simpa using hl))
    have er : (decide (e = e') && decide (ts = us)) = decide (e :: ts = e' :: us) := by
      rw [Bool.eq_iff_iff]
      simp
    rw [← er]
    exact this
theorem ents_D {K : PySem.W.Frag} {H : Hp} {l l' : Addr} {ts us : Tr} (ic : C8.InsC K A.C_Rights) (h : EL A H l ts) (h' : EL A H l' us) : BList (DTp K A) (.ref l) (.ref l') (decide (ts = us)) H := by
  obtain ⟨vs, hl, p⟩ := h
  obtain ⟨ws, hl', p'⟩ := h'
  refine ⟨l, l', vs, ws, rfl, rfl, hl, hl', ?_⟩
  by_cases c : ts.length = us.length
  · exact .inl (prs_ents ic p p' c)
  · exact .inr ⟨by rw [Paired.length p, Paired.length p']; exact c, (decide_eq_false fun e => c (by rw [e])).symm⟩
end
/-- an access list that stands well -/
structure Ac (A : Ads) (H : Hp) (a : Addr) (c : AcR) : Prop where
  al : AL A H a c
  ok : AccOk c
  pu : (sd c.us).Perm c.us
  pg : (sd c.gs).Perm c.gs
theorem Ac.keep {A : Ads} {H H' : Hp} {a : Addr} {c : AcR} (h : Ac A H a c) (k : Keep [] H H') : Ac A H' a c := ⟨h.al.keep k, h.ok, h.pu, h.pg⟩
noncomputable def eqA (c c' : AcR) : Bool := decide (entOf c = entOf c')
section
variable {P : Program} {w : World} {K : PySem.W.Frag} {mg : Str → Option Value} {base : Heap} {A : Ads}
set_option pp.maxSteps 300
def spAEq (A : Ads) : Sp := fun vs H Q _ => ∃ a y c, vs = [.ref a, y] ∧ Ac A H a c ∧ ((∃ b c', y = .ref b ∧ Ac A H b c' ∧ ∀ H', Keep [] H H' → Q (.bl (eqA c c')) H') ∨ (y = .non ∧ Q (.bl false) H))
theorem ok_AccessList___eq__ (T : Txt w K mg A) : FnOk P w K mg base CX0 4 A.f_AccessList___eq__ A.d_AccessList___eq__ ["self", "other"] (spAEq A) := by
  refine T.F_AccessList___eq__.ok sc_AccessList___eq__ (fun vs H Q E h => ?_) (fun cdv A_ outer s H vs Q E hr h => ?_)
  · obtain ⟨a, y, c, rfl, _⟩ := h
    rfl
  · obtain ⟨a, y, c, rfl, ha, h⟩ := h
    refine ⟨_, (pss_one (ps_ret (pe_and (pe_callB (call_isA T.in_AccessList) (by rfl) T.b_isinstance (by decide +kernel) (pa_cons (pv 1) (pa_cons (pe_gc rfl T.c_AccessList) pa_nil))) (pe_one (pe_cmpR (op_eqB (rcB_ent T.me_Rights___eq__.at_ T.me_Rights___eq__.fn ((ok_Rights___eq__ T).raw T.B_Rights___eq__ .nil) pass0) (hr.mono (by decide))) (pe_meth0 (pv 0) T.cl_AccessList T.me_AccessList_entries (ok_AccessList_entries T) (hr.mono (by decide)) T.B_AccessList_entries .nil pass0) (pe_meth0 (pv 1) T.cl_AccessList T.me_AccessList_entries (ok_AccessList_entries T) (hr.mono (by decide)) T.B_AccessList_entries .nil pass0) (nomark _)))))), ?_⟩
    rcases h with ⟨b, c', rfl, hb, q⟩ | ⟨rfl, q⟩
    · obtain ⟨dxa, o, g, t, mv, u, s, ku, ks, xa⟩ := id ha.al
      obtain ⟨dxb, o', g', t', mv', u', s', ku', ks', xb⟩ := id hb.al
      refine ⟨_, rfl, .inl ⟨b, dxb, _, rfl, xb.ob, ?_⟩⟩
      refine ⟨true, rfl, ?_⟩
      refine ifT rfl ?_
      refine ⟨_, rfl, a, dxa, _, rfl, xa.ob, rfl, ?_⟩
      refine ⟨a, c, rfl, ha.al, ha.ok, ha.pu, ha.pg, fun l1 H1 n1 k1 e1 => ?_⟩
      refine ⟨_, rfl, b, dxb, _, rfl, k1 _ _ xb.ob (by simp), rfl, ?_⟩
      refine ⟨b, c', rfl, hb.al.keep k1, hb.ok, hb.pu, hb.pg, fun l2 H2 n2 k2 e2 => ?_⟩
      exact ⟨_, ents_D T.in_Rights (e1.keep k2) e2, fun H3 k3 => q H3 ((k1.trans k2).trans k3)⟩
    · refine ⟨_, rfl, .inr ⟨_, _, _, _, _, rfl, .own _, .base .non, T.kt_AccessList_NoneType, ?_⟩⟩
      refine ⟨false, rfl, ?_⟩
      exact ifF rfl q
end
/-! ### == of what a start holds -/
def RA (A : Ads) (a : Addr) (y : V) (r : Bool) (H : Hp) : Prop := ∃ c, Ac A H a c ∧ ((∃ b c', y = .ref b ∧ Ac A H b c' ∧ eqA c c' = r) ∨ (y = .non ∧ false = r))
theorem RA.mono {A : Ads} (a : Addr) (y : V) (r : Bool) (H H' : Hp) (e : Ext H H') (h : RA A a y r H) : RA A a y r H' := by
  obtain ⟨c, h1, ⟨b, c', rfl, h2, er⟩ | h2⟩ := h
  · exact ⟨c, h1.keep (Keep.of_same e), .inl ⟨b, c', rfl, h2.keep (Keep.of_same e), er⟩⟩
  · exact ⟨c, h1.keep (Keep.of_same e), .inr h2⟩
def BNe (D : Eqb) : Eqb := fun x y r H => D x y r H ∧ x ≠ y
theorem BNe.mon {D : Eqb} (h : MonB D) : MonB (BNe D) := fun x y r H H' e d => ⟨h x y r H H' e d.1, d.2⟩
def DP (K : PySem.W.Frag) (A : Ads) : Eqb := fun x y r H => BFlat x y r H ∨ (BNe (BOwn K A.C_AccessList (RA A)) x y r H ∨ BNon A.C_AccessList (RA A) x y r H)
theorem monB_D {K : PySem.W.Frag} {A : Ads} : MonB (DP K A) := monB_flat.or ((BNe.mon (monB_own RA.mono)).or (monB_non RA.mono))
theorem sub_AL {w : World} {K : PySem.W.Frag} {mg : Str → Option Value} {A : Ads} (T : Txt w K mg A) : PySem.W.subIn K (.ref A.C_AccessList) (.type "NoneType") = some false := by
  obtain ⟨cd, h1, h2⟩ := T.cd_AccessList
  show PySem.W.mroIn K A.C_AccessList (.type "NoneType") = some false
  unfold PySem.W.mroIn
  rw [h1, Option.bind_some, h2]
  rfl
theorem eqB_D {X : Cx} {A : Ads} {CX : CXT} {E : XK} {n : Nat} {g : Addr} (hs : PySem.W.findIn X.K (.ref A.C_AccessList) "__eq__" = some (some (.ref g))) (hf : PySem.W.isFn X.K (.ref g) = true) (hsub : PySem.W.subIn X.K (.ref A.C_AccessList) (.type "NoneType") = some false)
    (F : FnR X.prog X.w X.K X.mg X.base CX n g (fun vs H Q E => spAEq A (vs ++ []) H Q E)) (hx : Passes CX X E) : EqB X n (DP X.K A) := by
  have F2 : FnR X.prog X.w X.K X.mg X.base CX n g (spEqB (RA A)) := F.imp fun vs H Q E h => by
    obtain ⟨a, y, r, rfl, ⟨c, h1, ⟨b, c', rfl, h2, e⟩ | ⟨rfl, e⟩⟩, q⟩ := h
    · exact ⟨a, _, c, rfl, h1, .inl ⟨b, c', rfl, h2, fun H' k => by rw [e]; exact q H' k.same⟩⟩
    · exact ⟨a, _, c, rfl, h1, .inr ⟨rfl, by rw [e]; exact q H Ext.rfl'⟩⟩
  refine ((eqB_flat (X := X)).mono (Nat.zero_le n)).or (((RcB.imp (D' := BNe _) (rcB_own hs hf F2 hx) fun x y r H h => h.1).eqB ?_).or ((rcB_non hs hf hsub F2 hx).eqB ?_))
  · rintro x y r H ⟨⟨a, dx, fs, t, rfl, ha, ty, nf, c, h1, ⟨b, c', rfl, h2, e⟩ | ⟨rfl, e⟩⟩, hne⟩
    · exact .inr (.inl ⟨a, b, rfl, rfl, fun z => hne (by rw [z])⟩)
    · exact .inr (.inr (.inl ⟨a, rfl, rfl⟩))
  · rintro x y r H ⟨b, dy, gs, rfl, rfl, _⟩
    exact .inr (.inr (.inr ⟨b, rfl, rfl⟩))
end K51
namespace K51
open PySem PySem.Spec PyProof.Rows L2 FR TL
open C8 (pss_cut pe_gc)
open StX (pe_callS2 pa_star)
/-! ### starts -/
section
variable {P : Program} {w : World} {K : PySem.W.Frag} {mg : Str → Option Value} {base : Heap} {A : Ads}
set_option pp.maxSteps 300
def Out (C : Addr) (v : V) (E : XK) (H : Hp) : Prop := ∀ (d : Addr) (H' : Hp), Keep [] H H' → H' d = some (.xd [(("value" : Str), v)]) → E (.ref C) (some d) H'
theorem Out.mono {C : Addr} {v : V} {E : XK} {H H' : Hp} (h : Out C v E H) (k : Keep [] H H') : Out C v E H' := fun d H2 k2 e => h d H2 (k.trans k2) e
theorem Out.new {C : Addr} {v : V} {E : XK} {H : Hp} (h : Out C v E H) : ∀ d, H d = none → E (.ref C) (some d) (upd H d (.xd [(("value" : Str), v)])) := fun d hd => h d _ (keep_new hd) upd_same
def isNo : PyData → Bool | .none => true | _ => false
def isBl : PyData → Bool | .bool _ => true | _ => false
theorem kit_bool (e : PyData) : kitB (tyN e) "bool" = some (isBl e) := by
  cases e
  case none => exact (by decide +kernel : kitB "NoneType" "bool" = some false)
  case bool => exact (by decide +kernel : kitB "bool" "bool" = some true)
  case int => exact (by decide +kernel : kitB "int" "bool" = some false)
  case str => exact (by decide +kernel : kitB "str" "bool" = some false)
  case list => exact (by decide +kernel : kitB "list" "bool" = some false)
  case tuple => exact (by decide +kernel : kitB "tuple" "bool" = some false)
  case dict => exact (by decide +kernel : kitB "dict" "bool" = some false)
theorem kt_AL (T : Txt w K mg A) {H : Hp} {v : V} {e : PyData} (h : Odd H v e) : PySem.W.kitOne K (.type (tyN e)) (.ref A.C_AccessList) = some false := by
  cases e
  case none => exact T.kt_AccessList_NoneType
  case bool => exact T.kt_AccessList_bool
  case int => exact T.kt_AccessList_int
  case str => exact T.kt_AccessList_str
  case list => exact T.kt_AccessList_list
  case tuple => exact T.kt_AccessList_tuple
  case dict => exact T.kt_AccessList_dict
/-- what fits at each place -/
def G0 (A : Ads) (H : Hp) (v : V) : Prop := v = .non ∨ ∃ al c, v = .ref al ∧ Ac A H al c
def G1 (v : V) : Prop := ∃ s, v = .str s ∧ Nm s
def G2 (v : V) : Prop := ∃ b, v = .bl b
def G3 (v : V) : Prop := ∃ s, v = .str s ∧ okB (.str s) = true ∧ ascB (.str s) = true ∧ digs s = true
theorem G0.keep {H H' : Hp} {v : V} (h : G0 A H v) (k : Keep [] H H') : G0 A H' v := h.imp id fun ⟨al, c, e, a⟩ => ⟨al, c, e, a.keep k⟩
structure Good (A : Ads) (H : Hp) (v0 v1 v2 v3 : V) : Prop where
  g0 : G0 A H v0
  g1 : G1 v1
  g2 : G2 v2
  g3 : G3 v3
theorem Good.keep {H H' : Hp} {v0 v1 v2 v3 : V} (h : Good A H v0 v1 v2 v3) (k : Keep [] H H') : Good A H' v0 v1 v2 v3 := ⟨h.g0.keep k, h.g1, h.g2, h.g3⟩
/-- the first place of the four that is wrong (4: none), and what stands there -/
inductive First (A : Ads) (H : Hp) (v0 v1 v2 v3 : V) : Nat → V → Prop
  | b0 (e : PyData) : Odd H v0 e → isNo e = false → First A H v0 v1 v2 v3 0 v0
  | b1 (e : PyData) : G0 A H v0 → Odd H v1 e → nmB e = false → ascB e = true → First A H v0 v1 v2 v3 1 v1
  | b2 (e : PyData) : G0 A H v0 → G1 v1 → Odd H v2 e → isBl e = false → First A H v0 v1 v2 v3 2 v2
  | b3 (e : PyData) : G0 A H v0 → G1 v1 → G2 v2 → Odd H v3 e → digB e = false → ascB e = true → First A H v0 v1 v2 v3 3 v3
  | ok : Good A H v0 v1 v2 v3 → First A H v0 v1 v2 v3 4 .non
theorem First.keep {H H' : Hp} {v0 v1 v2 v3 b : V} {k : Nat} (h : First A H v0 v1 v2 v3 k b) (kp : Keep [] H H') : First A H' v0 v1 v2 v3 k b := by
  cases h with
  | b0 e a b => exact .b0 e (a.keep kp) b
  | b1 e a b c d => exact .b1 e (a.keep kp) (b.keep kp) c d
  | b2 e a b c d => exact .b2 e (a.keep kp) b (c.keep kp) d
  | b3 e a b c d f g => exact .b3 e (a.keep kp) b c (d.keep kp) f g
  | ok g => exact .ok (g.keep kp)
theorem First.chain {H : Hp} {v0 v1 v2 v3 b : V} {k : Nat} (h : First A H v0 v1 v2 v3 k b) : (∃ e, Odd H v0 e ∧ isNo e = false ∧ k = 0 ∧ b = v0) ∨ (G0 A H v0 ∧ ((∃ e, Odd H v1 e ∧ nmB e = false ∧ ascB e = true ∧ k = 1 ∧ b = v1) ∨ (G1 v1 ∧
    ((∃ e, Odd H v2 e ∧ isBl e = false ∧ k = 2 ∧ b = v2) ∨ (G2 v2 ∧ ((∃ e, Odd H v3 e ∧ digB e = false ∧ ascB e = true ∧ k = 3 ∧ b = v3) ∨ (G3 v3 ∧ k = 4))))))) := by
  cases h with
  | b0 e a b => exact .inl ⟨e, a, b, rfl, rfl⟩
  | b1 e a b c d => exact .inr ⟨a, .inl ⟨e, b, c, d, rfl, rfl⟩⟩
  | b2 e a b c d => exact .inr ⟨a, .inr ⟨b, .inl ⟨e, c, d, rfl, rfl⟩⟩⟩
  | b3 e a b c d f g => exact .inr ⟨a, .inr ⟨b, .inr ⟨c, .inl ⟨e, d, f, g, rfl, rfl⟩⟩⟩⟩
  | ok g => exact .inr ⟨g.g0, .inr ⟨g.g1, .inr ⟨g.g2, .inr ⟨g.g3, rfl⟩⟩⟩⟩
structure Ends (A : Ads) (k : Nat) (b : V) (E : XK) (H : Hp) : Prop where
  e0 : k = 0 → Out A.C_InvalidList b E H
  e1 : k = 1 → Out A.C_InvalidName b E H
  e2 : k = 2 → Out A.C_InvalidNode b E H
  e3 : k = 3 → Out A.C_InvalidDigits b E H
theorem Ends.mono {k : Nat} {b : V} {E : XK} {H H' : Hp} (h : Ends A k b E H) (kp : Keep [] H H') : Ends A k b E H' := ⟨fun e => (h.e0 e).mono kp, fun e => (h.e1 e).mono kp, fun e => (h.e2 e).mono kp, fun e => (h.e3 e).mono kp⟩
def StO (A : Ads) (dx : Addr) (v0 v1 v2 v3 : V) : HO := .ins A.C_Start dx [(Str.ofString "_default", v0), (Str.ofString "_group", v1), (Str.ofString "_passes", v2), (Str.ofString "_umask", v3)]
def spSInit (A : Ads) : Sp := fun vs H Q E => ∃ p dx v0 v1 v2 v3 k b, vs = [.ref p, v0, v1, v2, v3] ∧ H p = some (.ins A.C_Start dx []) ∧ First A H v0 v1 v2 v3 k b ∧ Ends A k b E H ∧ (k = 4 → ∀ H', Keep [p] H H' → H' p = some (StO A dx v0 v1 v2 v3) → Q .non H')
theorem ok_Start___init__ (T : Txt w K mg A) : FnOk P w K mg base (L2.CX P w) 2 A.f_Start___init__ A.d_Start___init__ ["self", "default", "group", "passes", "umask"] (spSInit A) := by
  refine T.F_Start___init__.ok (CX := L2.CX P w) sc_Start___init__ (fun vs H Q E h => ?_) (fun cdv A_ outer s_ H vs Q E hr h => ?_)
  · obtain ⟨p, dx, v0, v1, v2, v3, k, b, rfl, _⟩ := h
    rfl
  · obtain ⟨p, dx, v0, v1, v2, v3, k, b, rfl, hp, fi, en, q⟩ := h
    refine ⟨_, (pss_cons (ps_if (PW.pt (pw_and (pt_cmpR op_notN (pv 1) pe_non (nomark _)) (pw_and1 (pt_not (pt_val (pe_callB call_isi (by rfl) T.b_isinstance (by decide +kernel) (pa_cons (pv 1) (pa_cons (pe_gc rfl T.c_AccessList) pa_nil)))))))) (pss_one (ps_raiseLow rfl T.low_InvalidList hr (takes_of rfl rfl rfl rfl) (pa_cons (pv 1) pa_nil))) pss_nil)
  (pss_cons (ps_if (pt_not (pt_val (pe_call (ok_is_name T) (hr.mono (by decide)) (by rfl) T.g_is_name T.F_is_name.kp T.B_is_name .nil pass0 (pa_cons (pv 2) pa_nil)))) (pss_one (ps_raiseLow rfl T.low_InvalidName hr (takes_of rfl rfl rfl rfl) (pa_cons (pv 2) pa_nil))) pss_nil)
  (pss_cons (ps_if (pt_not (pt_val (pe_callB call_isi (by rfl) T.b_isinstance (by decide +kernel) (pa_cons (pv 3) (pa_cons (pe_bltn (v := .ty "bool") rfl T.b_bool (by decide +kernel) rfl) pa_nil))))) (pss_one (ps_raiseLow rfl T.low_InvalidNode hr (takes_of rfl rfl rfl rfl) (pa_cons (pv 3) pa_nil))) pss_nil)
  (pss_cons (ps_if (pt_not (pt_val (pe_call (ok_is_digits T) (hr.mono (by decide)) (by rfl) T.g_is_digits T.F_is_digits.kp T.B_is_digits .nil pass0 (pa_cons (pv 4) pa_nil)))) (pss_one (ps_raiseLow rfl T.low_InvalidDigits hr (takes_of rfl rfl rfl rfl) (pa_cons (pv 4) pa_nil))) pss_nil)
  (pss_cons (ps_fld (pv 0) (pv 1) rfl)
  (pss_cons (ps_fld (pv 0) (pv 2) rfl)
  (pss_cons (ps_fld (pv 0) (pv 3) rfl)
  (pss_one (ps_fld (pv 0) (pv 4) rfl))))))))), ?_⟩
    refine ⟨_, rfl, rfl, _, rfl, ?_⟩
    rcases fi.chain with ⟨e0, h0, n0, rfl, rfl⟩ | ⟨g0, c1⟩
    · have nn : b ≠ V.non := fun z => by
        subst z
        obtain ⟨h, _⟩ := h0
        cases h
        cases n0
      refine ifT (by rw [decide_eq_false nn]; rfl) ?_
      refine ⟨_, rfl, _, _, _, _, _, rfl, .own _, h0.ty, kt_AL T h0, ?_⟩
      refine ⟨_, rfl, ?_⟩
      refine ifT rfl ?_
      walk_at "rd"
      exact (en.e0 rfl).new
    rcases g0 with rfl | ⟨al, c, rfl, hc⟩
    case' inl => refine ifF rfl ?_
    case' inr =>
      obtain ⟨dxa, _, _, _, _, _, _, _, _, xa⟩ := hc.al
      refine ifT rfl ?_
      refine ⟨_, rfl, _, _, _, _, _, rfl, .own _, .base (.ins xa.ob T.cl_AccessList T.in_AccessList.ha T.in_AccessList.hn T.in_AccessList.htk T.in_AccessList.hm), T.in_AccessList.me, ?_⟩
      refine ⟨_, rfl, ?_⟩
      refine ifF rfl ?_
    all_goals
      walk_at "rd"
      rcases c1 with ⟨e1, h1, n1, a1, rfl, rfl⟩ | ⟨⟨s1, rfl, hs1⟩, c2⟩
      · refine .inr ⟨e1, h1, n1, a1, ?_⟩
        refine ⟨_, rfl, ?_⟩
        refine ifT rfl ?_
        walk_at "rd"
        exact (en.e1 rfl).new
      refine .inl ⟨s1, rfl, hs1, ?_⟩
      refine ⟨_, rfl, ?_⟩
      refine ifF rfl ?_
      rcases c2 with ⟨e2, h2, n2, rfl, rfl⟩ | ⟨⟨b2, rfl⟩, c3⟩
      · have hk := kit_bool e2
        rw [n2] at hk
        walk_at "rd"
        refine ⟨_, _, _, _, _, rfl, .ty _, h2.ty, kit_ty hk, ?_⟩
        refine ⟨_, rfl, ?_⟩
        refine ifT rfl ?_
        walk_at "rd"
        exact (en.e2 rfl).new
      walk_at "rd"
      rcases c3 with ⟨e3, h3, n3, a3, rfl, rfl⟩ | ⟨⟨s3, rfl, okb, asc, dgs⟩, rfl⟩
      · refine ⟨_, e3, rfl, h3, a3, fun H1 k1 => ?_⟩
        rw [n3]
        refine ⟨_, rfl, ?_⟩
        refine ifT rfl ?_
        walk_at "rd"
        exact ((en.e3 rfl).mono k1).new
      refine ⟨_, .str s3, rfl, ⟨.str s3, okb⟩, asc, fun H1 k1 => ?_⟩
      rw [show digB (.str s3) = true from dgs]
      refine ⟨_, rfl, ?_⟩
      refine ifF rfl ?_
      have hp1 := k1 _ _ hp (by simp)
      refine ⟨_, rfl, _, rfl, p, _, dx, _, rfl, hp1, T.cl_Start, T.na_Start__default, by decide, ?_⟩
      refine ⟨_, rfl, _, rfl, p, _, dx, _, rfl, upd_same, T.cl_Start, T.na_Start__group, by show 1 < 1000; decide, ?_⟩
      refine ⟨_, rfl, _, rfl, p, _, dx, _, rfl, upd_same, T.cl_Start, T.na_Start__passes, by show 2 < 1000; decide, ?_⟩
      refine ⟨_, rfl, _, rfl, p, _, dx, _, rfl, upd_same, T.cl_Start, T.na_Start__umask, by show 3 < 1000; decide, ?_⟩
      refine q rfl _ (fun b u e nb => ?_) upd_same
      have nb' : b ≠ p := by simpa using nb
      rw [upd_ne nb', upd_ne nb', upd_ne nb', upd_ne nb']
      exact k1 b u e (by simp)
end
end K51
namespace K51
open PySem PySem.Spec PyProof.Rows L2 FR TL
open C8 (pss_cut pe_gc)
open StX (pe_callS2 pa_star)
section
variable {P : Program} {w : World} {K : PySem.W.Frag} {mg : Str → Option Value} {base : Heap} {A : Ads}
set_option pp.maxSteps 300
def St (A : Ads) (H : Hp) (p : Addr) (v0 v1 v2 v3 : V) : Prop := ∃ dx, H p = some (StO A dx v0 v1 v2 v3)
theorem St.keep {H H' : Hp} {p : Addr} {v0 v1 v2 v3 : V} (h : St A H p v0 v1 v2 v3) (k : Keep [] H H') : St A H' p v0 v1 v2 v3 := let ⟨dx, h⟩ := h; ⟨dx, k _ _ h (by simp)⟩
theorem ok_Start_default (T : Txt w K mg A) : FnOk P w K mg base CX0 1 A.f_Start_default A.d_Start_default ["self"] (fun vs H Q _ => ∃ p v0 v1 v2 v3, vs = [.ref p] ∧ St A H p v0 v1 v2 v3 ∧ Q v0 H) := by
  refine T.F_Start_default.ok sc_Start_default (fun vs H Q E h => ?_) (fun cdv A_ outer s_ H vs Q E hr h => ?_)
  · obtain ⟨p, v0, v1, v2, v3, rfl, _⟩ := h
    rfl
  · obtain ⟨p, v0, v1, v2, v3, rfl, ⟨dx, hp⟩, q⟩ := h
    refine ⟨_, (pss_one (ps_ret (pe_fld (pv 0) rfl))), ?_⟩
    exact ⟨_, rfl, p, _, dx, _, _, rfl, hp, T.cl_Start, T.na_Start__default, rfl, q⟩
theorem ok_Start_group (T : Txt w K mg A) : FnOk P w K mg base CX0 1 A.f_Start_group A.d_Start_group ["self"] (fun vs H Q _ => ∃ p v0 v1 v2 v3, vs = [.ref p] ∧ St A H p v0 v1 v2 v3 ∧ Q v1 H) := by
  refine T.F_Start_group.ok sc_Start_group (fun vs H Q E h => ?_) (fun cdv A_ outer s_ H vs Q E hr h => ?_)
  · obtain ⟨p, v0, v1, v2, v3, rfl, _⟩ := h
    rfl
  · obtain ⟨p, v0, v1, v2, v3, rfl, ⟨dx, hp⟩, q⟩ := h
    refine ⟨_, (pss_one (ps_ret (pe_fld (pv 0) rfl))), ?_⟩
    exact ⟨_, rfl, p, _, dx, _, _, rfl, hp, T.cl_Start, T.na_Start__group, rfl, q⟩
theorem ok_Start_passes (T : Txt w K mg A) : FnOk P w K mg base CX0 1 A.f_Start_passes A.d_Start_passes ["self"] (fun vs H Q _ => ∃ p v0 v1 v2 v3, vs = [.ref p] ∧ St A H p v0 v1 v2 v3 ∧ Q v2 H) := by
  refine T.F_Start_passes.ok sc_Start_passes (fun vs H Q E h => ?_) (fun cdv A_ outer s_ H vs Q E hr h => ?_)
  · obtain ⟨p, v0, v1, v2, v3, rfl, _⟩ := h
    rfl
  · obtain ⟨p, v0, v1, v2, v3, rfl, ⟨dx, hp⟩, q⟩ := h
    refine ⟨_, (pss_one (ps_ret (pe_fld (pv 0) rfl))), ?_⟩
    exact ⟨_, rfl, p, _, dx, _, _, rfl, hp, T.cl_Start, T.na_Start__passes, rfl, q⟩
theorem ok_Start_umask (T : Txt w K mg A) : FnOk P w K mg base CX0 1 A.f_Start_umask A.d_Start_umask ["self"] (fun vs H Q _ => ∃ p v0 v1 v2 v3, vs = [.ref p] ∧ St A H p v0 v1 v2 v3 ∧ Q v3 H) := by
  refine T.F_Start_umask.ok sc_Start_umask (fun vs H Q E h => ?_) (fun cdv A_ outer s_ H vs Q E hr h => ?_)
  · obtain ⟨p, v0, v1, v2, v3, rfl, _⟩ := h
    rfl
  · obtain ⟨p, v0, v1, v2, v3, rfl, ⟨dx, hp⟩, q⟩ := h
    refine ⟨_, (pss_one (ps_ret (pe_fld (pv 0) rfl))), ?_⟩
    exact ⟨_, rfl, p, _, dx, _, _, rfl, hp, T.cl_Start, T.na_Start__umask, rfl, q⟩
theorem ok_Start__told (T : Txt w K mg A) : FnOk P w K mg base CX0 1 A.f_Start__told A.d_Start__told ["self"] (fun vs H Q _ => ∃ p v0 v1 v2 v3, vs = [.ref p] ∧ St A H p v0 v1 v2 v3 ∧ NewO (.tup [v0, v1, v2, v3]) Q H) := by
  refine T.F_Start__told.ok sc_Start__told (fun vs H Q E h => ?_) (fun cdv A_ outer s_ H vs Q E hr h => ?_)
  · obtain ⟨p, v0, v1, v2, v3, rfl, _⟩ := h
    rfl
  · obtain ⟨p, v0, v1, v2, v3, rfl, ⟨dx, hp⟩, q⟩ := h
    refine ⟨_, (pss_one (ps_ret (pe_tupN (pa_cons (pe_fld (pv 0) rfl) (pa_cons (pe_fld (pv 0) rfl) (pa_cons (pe_fld (pv 0) rfl) (pa_cons (pe_fld (pv 0) rfl) pa_nil))))))), ?_⟩
    refine ⟨_, rfl, p, _, dx, _, _, rfl, hp, T.cl_Start, T.na_Start__default, rfl, _, rfl, p, _, dx, _, _, rfl, hp, T.cl_Start, T.na_Start__group, rfl, _, rfl, p, _, dx, _, _, rfl, hp, T.cl_Start, T.na_Start__passes, rfl, _, rfl, p, _, dx, _, _, rfl, hp, T.cl_Start, T.na_Start__umask, rfl, ?_⟩
    exact ⟨(show 4 ≤ sizeLine by decide), q⟩
def spSEq (K : PySem.W.Frag) (A : Ads) : Sp := fun vs H Q _ => ∃ p y v0 v1 v2 v3, vs = [.ref p, y] ∧ St A H p v0 v1 v2 v3 ∧
  ((∃ q w0 w1 w2 w3 r, y = .ref q ∧ St A H q w0 w1 w2 w3 ∧ PrsB (DP K A) [v0, v1, v2, v3] [w0, w1, w2, w3] r H ∧ ∀ H', Keep [] H H' → Q (.bl r) H') ∨ (∃ a xs, y = .ref a ∧ H a = some (.lst xs) ∧ Q (.bl false) H))
theorem ok_Start___eq__ (T : Txt w K mg A) : FnOk P w K mg base CX0 6 A.f_Start___eq__ A.d_Start___eq__ ["self", "other"] (spSEq K A) := by
  refine T.F_Start___eq__.ok sc_Start___eq__ (fun vs H Q E h => ?_) (fun cdv A_ outer s H vs Q E hr h => ?_)
  · obtain ⟨p, y, v0, v1, v2, v3, rfl, _⟩ := h
    rfl
  · obtain ⟨p, y, v0, v1, v2, v3, rfl, ⟨dx, hp⟩, h⟩ := h
    refine ⟨_, (pss_one (ps_ret (pe_and (pe_callB (call_isA T.in_Start) (by rfl) T.b_isinstance (by decide +kernel) (pa_cons (pv 1) (pa_cons (pe_gc rfl T.c_Start) pa_nil))) (pe_one (pe_cmpR (op_eqB (rcB_tup monB_D (eqB_D T.me_AccessList___eq__.at_ T.me_AccessList___eq__.fn (sub_AL T) ((ok_AccessList___eq__ T).raw T.B_AccessList___eq__ .nil) pass0)) (hr.mono (by decide))) (pe_meth0 (pv 0) T.cl_Start T.me_Start__told (ok_Start__told T) (hr.mono (by decide)) T.B_Start__told .nil pass0) (pe_meth0 (pv 1) T.cl_Start T.me_Start__told (ok_Start__told T) (hr.mono (by decide)) T.B_Start__told .nil pass0) (nomark _)))))), ?_⟩
    rcases h with ⟨q, w0, w1, w2, w3, r, rfl, ⟨dy, hq⟩, pr, fin⟩ | ⟨a, xs, rfl, ha, fin⟩
    · refine ⟨_, rfl, .inl ⟨q, dy, _, rfl, hq, ?_⟩⟩
      refine ⟨true, rfl, ?_⟩
      refine ifT rfl ?_
      refine ⟨_, rfl, p, dx, _, rfl, hp, rfl, ?_⟩
      refine ⟨p, v0, v1, v2, v3, rfl, ⟨dx, hp⟩, NewO.mk fun t1 H1 n1 k1 h1 => ?_⟩
      refine ⟨_, rfl, q, dy, _, rfl, k1 _ _ hq (by simp), rfl, ?_⟩
      refine ⟨q, w0, w1, w2, w3, rfl, ⟨dy, k1 _ _ hq (by simp)⟩, NewO.mk fun t2 H2 n2 k2 h2 => ?_⟩
      have k12 := k1.trans k2
      exact ⟨r, ⟨t1, t2, _, _, rfl, rfl, .inl (.of (k2 _ _ h1 (by simp))), .inl (.of h2), pr.mon monB_D k12.same⟩, fun H3 k3 => fin H3 (k12.trans k3)⟩
    · refine ⟨_, rfl, .inr ⟨_, _, _, _, _, rfl, .own _, .base (.lst ha), T.kt_Start_list, ?_⟩⟩
      refine ⟨false, rfl, ?_⟩
      exact ifF rfl fin
/-- what fits at this place -/
structure Fit (A : Ads) (H : Hp) (at_ : Int) (v : V) : Prop where
  f0 : at_ = 0 → G0 A H v
  f1 : at_ = 1 → G1 v
  f2 : at_ = 2 → G2 v
  f3 : at_ = 3 → G3 v
theorem Fit.keep {H H' : Hp} {at_ : Int} {v : V} (h : Fit A H at_ v) (k : Keep [] H H') : Fit A H' at_ v := ⟨fun e => (h.f0 e).keep k, h.f1, h.f2, h.f3⟩
def badB (at_ : Int) (e : PyData) : Bool := ascB e && okB e && if at_ = 0 then !isNo e else if at_ = 1 then !nmB e else if at_ = 2 then !isBl e else !digB e
def BadAt (H : Hp) (at_ : Int) (v : V) : Prop := ∃ e, OddS H v e ∧ badB at_ e = true
theorem lst_at {H : Hp} {p : Addr} {xs : List V} {d k : Int} (_ : H p = some (.lst xs)) (hl : (xs.length : Int) = k) (h0 : 0 ≤ d) (h1 : d < k) : ∃ v, atI xs d = some v ∧ v ∈ xs := atI_in h0 (by omega)
def spOdd : Sp := fun vs H Q _ => ∃ (b : Addr) (n : Nat) (x y z at_ : Int), vs = [.ref b, .int at_] ∧ H b = some (bagO x y z) ∧ BagOk n x y z ∧ n < 1000000 ∧ 0 ≤ at_ ∧ at_ ≤ 3 ∧
  ∀ (v : V) (x' y' z' : Int) (H' : Hp), BagOk (n + 1) x' y' z' → Keep [b] H H' → H' b = some (bagO x' y' z') → BadAt H' at_ v → (∀ a, v = .ref a → H a = none) → Q v H'
theorem ok_odd (T : Txt w K mg A) : FnOk P w K mg base CX0 2 A.f_odd A.d_odd ["_law_bag_here", "_law_at"] spOdd := by
  refine T.F_odd.ok sc_odd (fun vs H Q E h => ?_) (fun cdv A_ outer s H vs Q E hr h => ?_)
  · obtain ⟨b, n, x, y, z, at_, rfl, _⟩ := h
    rfl
  · obtain ⟨b, n, x, y, z, at_, rfl, hb, ok, hn, a0, a4, q⟩ := h
    have W := Ow.start1 hb
    refine ⟨_, (pss_cons (ps_set (i := 2) sc_odd.nd rfl (.inl rfl) (pe_lstS (pa_cons pe_int (pa_cons pe_str (pa_cons pe_str (pa_cons pe_str (pa_cons (pe_lstS pa_nil) (pa_cons (pe_tupN pa_nil) (pa_cons pe_dnewN (pa_cons (pe_lstS (pa_cons pe_str pa_nil)) (pa_cons pe_str (pa_cons (pe_un un_neg pe_int) (pa_cons pe_str (pa_cons pe_int pa_nil))))))))))))))
  (pss_cons (ps_set (i := 2) sc_odd.nd rfl (.inl rfl) (pe_op op_catN (pv 2) (pe_lstS (pa_cons (pe_lstS (pa_cons pe_str (pa_cons pe_str (pa_cons pe_str pa_nil)))) (pa_cons (pe_tupN (pa_cons pe_str (pa_cons pe_str (pa_cons pe_str pa_nil)))) pa_nil)))))
  (pss_one (ps_ret (pe_ix ix_list (pe_op op_catN (pv 2) (pe_lstS (pa_cons (pe_ix ix_list (pe_lstS (pa_cons pe_bl (pa_cons pe_non (pa_cons pe_non (pa_cons pe_non pa_nil))))) (pv 1) (fun _ _ => rfl)) pa_nil))) (pe_call (ok_take T) (hr.mono (by decide)) (by rfl) T.g_take T.F_take.kp T.B_take .nil pass0 (pa_cons (pv 0) (pa_cons pe_int pa_nil))) (fun _ _ => rfl)))))), ?_⟩
    have : at_ = 0 ∨ at_ = 1 ∨ at_ = 2 ∨ at_ = 3 := by omega
    rcases this with rfl | rfl | rfl | rfl
    all_goals
      walk_at "rd"
      rename_i p1 H1 np1 sp1 kp1 hp1 W1 p2 H2 np2 kp2 hp2 W2 p3 H3 np3 kp3 hp3 W3 p4 H4 np4 sp4 kp4 hp4 W4 p5 H5 np5 sp5 kp5 hp5 W5 p6 H6 np6 sp6 kp6 hp6 W6 p7 H7 np7 kp7 hp7 W7 p8 H8 np8 sp8 kp8 hp8 W8
      refine ⟨_, _, _, _, rfl, rfl, W8.get 3 rfl, W8.get 0 rfl, size_ok (Nat.le_of_ble_eq_true rfl), ?_⟩
      walk_at "obj"
      rename_i p9 H9 np9 kp9 hp9 W9
      walk_at "rd"
      rename_i p10 H10 np10 sp10 kp10 hp10 W10 p11 H11 np11 sp11 kp11 hp11 W11
      refine ⟨_, _, _, _, rfl, rfl, W11.get 2 rfl, W11.get 0 rfl, size_ok (Nat.le_of_ble_eq_true rfl), ?_⟩
      walk_at "obj"
      rename_i p12 H12 np12 kp12 hp12 W12
      walk_at "rd"
      walk_at "take"
      rename_i d x2 y2 z2 H13 d0 d1 ok2 kp13 hb13 W13
      obtain ⟨v, hv, hm⟩ := lst_at (W13.get 0 rfl) rfl d0 d1
      refine ⟨_, _, _, _, rfl, rfl, W13.sq 0 rfl, hv, ?_⟩
      have k2 := kp1.trans kp2
      have k3 := k2.trans kp3
      have k4 := k3.trans kp4
      have k5 := k4.trans kp5
      have k6 := k5.trans kp6
      have fin : ∀ e, OddS H13 v e → badB _ e = true → (∀ a, v = .ref a → H a = none) → Q v H13 := fun e he u f => q v x2 y2 z2 H13 ok2 W13.keep hb13 ⟨e, he, u⟩ f
      show Q v H13
      simp only [List.cons_append, List.nil_append, List.mem_cons, List.not_mem_nil, or_false] at hm
      rcases hm with rfl | rfl | rfl | rfl | rfl | rfl | rfl | rfl | rfl | rfl | rfl | rfl | rfl | rfl | rfl
      · exact fin _ (.int _) (by decide +kernel) (fun a e => by cases e)
      · exact fin _ (.str _) (by decide +kernel) (fun a e => by cases e)
      · exact fin _ (.str _) (by decide +kernel) (fun a e => by cases e)
      · exact fin _ (.str _) (by decide +kernel) (fun a e => by cases e)
      · exact fin _ (.lst (ws := []) (W13.get 11 rfl) sp1) (by decide +kernel) (fun a e => by cases e; exact np1)
      · exact fin _ (.tup (ws := []) (W13.get 10 rfl)) (by decide +kernel) (fun a e => by cases e; exact kp1.free np2)
      · exact fin _ (.dc0 (W13.get 9 rfl)) (by decide +kernel) (fun a e => by cases e; exact k2.free np3)
      · exact fin _ (.lst (ws := ["777"]) (W13.get 8 rfl) sp4) (by decide +kernel) (fun a e => by cases e; exact k3.free np4)
      · exact fin _ (.str _) (by decide +kernel) (fun a e => by cases e)
      · exact fin _ (.int _) (by decide +kernel) (fun a e => by cases e)
      · exact fin _ (.str _) (by decide +kernel) (fun a e => by cases e)
      · exact fin _ (.int _) (by decide +kernel) (fun a e => by cases e)
      · exact fin _ (.lst (ws := ["7", "5", "0"]) (W13.get 6 rfl) sp6) (by decide +kernel) (fun a e => by cases e; exact k5.free np6)
      · exact fin _ (.tup (ws := ["0", "2", "2"]) (W13.get 5 rfl)) (by decide +kernel) (fun a e => by cases e; exact k6.free np7)
      · first
          | exact fin _ (.bl _) (by decide +kernel) (fun a e => by cases e)
          | exact fin _ .non (by decide +kernel) (fun a e => by cases e)
end
end K51
namespace K51
open PySem PySem.Spec PyProof.Rows L2 FR TL
open C8 (pss_cut pe_gc)
open StX (pe_callS2 pa_star)
theorem vrev : ∀ {xs : List V} {us : List Value}, Vals xs us → Vals xs.reverse us.reverse
  | _, _, .nil => .nil
  | x :: xs, u :: us, .cons r t => by rw [List.reverse_cons, List.reverse_cons]; exact (vrev t).append (.cons r .nil)
/-- what changes: lists alone -/
def LM (M : List Addr) (H : Hp) : Prop := ∀ a ∈ M, ∃ xs, H a = some (.lst xs)
theorem LM.at {M : List Addr} {H H' : Hp} (h : LM M H) (k : Keep M H H') {p : Addr} {o : HO} (hp : H p = some o) (no : ∀ xs, o ≠ .lst xs) : H' p = some o := k _ _ hp fun hm => by
  obtain ⟨xs, h1⟩ := h p hm
  rw [hp] at h1
  exact no xs (Option.some.inj h1)
theorem IsR.keepM {A : Ads} {H H' : Hp} {v : V} {d : Int} {L : List Addr} (h : IsR A H v d) (l : LM L H) (k : Keep L H H') : IsR A H' v d := by
  obtain ⟨a, dx, e, h, b⟩ := h
  exact ⟨a, dx, e, l.at k h (fun _ z => by cases z), b⟩
theorem AL.keepM {A : Ads} {H H' : Hp} {p : Addr} {c : AcR} {L : List Addr} (h : AL A H p c) (l : LM L H) (k : Keep L H H') : AL A H' p c := by
  obtain ⟨dx, o, g, t, mv, u, s, ku, ks, h⟩ := h
  exact ⟨dx, o, g, t, mv, u, s, ku, ks, ⟨l.at k h.ob (fun _ z => by cases z), h.ho.keepM l k, h.hg.keepM l k, h.ht.keepM l k, l.at k h.hu (fun _ z => by cases z), l.at k h.hs (fun _ z => by cases z), h.du.imp fun _ _ r => r.keepM l k, h.ds.imp fun _ _ r => r.keepM l k, h.hm.imp id fun ⟨d, e, r⟩ => ⟨d, e, r.keepM l k⟩⟩⟩
theorem Ac.keepM {A : Ads} {H H' : Hp} {p : Addr} {c : AcR} {L : List Addr} (h : Ac A H p c) (l : LM L H) (k : Keep L H H') : Ac A H' p c := ⟨h.al.keepM l k, h.ok, h.pu, h.pg⟩
theorem G0.keepM {A : Ads} {H H' : Hp} {v : V} {L : List Addr} (h : G0 A H v) (l : LM L H) (k : Keep L H H') : G0 A H' v := h.imp id fun ⟨al, c, e, a⟩ => ⟨al, c, e, a.keepM l k⟩
theorem Fit.keepM {A : Ads} {H H' : Hp} {at_ : Int} {v : V} {L : List Addr} (h : Fit A H at_ v) (l : LM L H) (k : Keep L H H') : Fit A H' at_ v := ⟨fun e => (h.f0 e).keepM l k, h.f1, h.f2, h.f3⟩
theorem lm1 {H : Hp} {b : Addr} {x y z : Int} (h : H b = some (bagO x y z)) : LM [b] H := fun a ha => by rw [List.mem_singleton.mp ha]; exact ⟨_, h⟩
theorem vtake {vs : List V} {us : List Value} (h : Vals vs us) (n : Nat) : Vals (vs.take n) (us.take n) := by
  induction h generalizing n with
  | nil => rw [List.take_nil, List.take_nil]; exact .nil
  | cons a b ih =>
    cases n with
    | zero => exact .nil
    | succ n => exact .cons a (ih n)
theorem vdrop {vs : List V} {us : List Value} (h : Vals vs us) (n : Nat) : Vals (vs.drop n) (us.drop n) := by
  induction h generalizing n with
  | nil => rw [List.drop_nil, List.drop_nil]; exact .nil
  | cons a b ih =>
    cases n with
    | zero => exact .cons a b
    | succ n => exact ih n
section
variable {P : Program} {w : World} {K : PySem.W.Frag} {mg : Str → Option Value} {base : Heap} {A : Ads}
set_option pp.maxSteps 300
abbrev psS : List Str := ["self", "default", "group", "passes", "umask"]
theorem kbS_u (T : Txt w K mg A) : ∃ mv : List Value, KBn K A.d_Start___init__ psS 1 ["umask"] (fun us ws => us ++ mv ++ ws) (fun vs zs => vs ++ [V.non, V.str "root", V.bl false] ++ zs) :=
  FR.kb0 (ps := psS) T.F_Start___init__ 1 ["umask"] [("default", .non), ("group", .str "root"), ("passes", .bl false)] (fun us mv ws => us ++ mv ++ ws) (by simp) (by simp) (fun a b c => (a.append b).append c) fun D doc pm an cdv ct us mv ws h1 h2 h3 => match us, mv, ws, h1, h2, h3 with
    | [_], [_, _, _], [_], _, _, _ => ⟨_, _, _, _, _, _, rfl, rfl, ⟨_, _, _, _, _, _, rfl, rfl, ⟨_, _, _, _, _, _, rfl, rfl, rfl⟩⟩⟩
theorem kbS_gp (T : Txt w K mg A) : ∃ mv : List Value, KBn K A.d_Start___init__ psS 1 ["group", "passes"] (fun us ws => us ++ mv.take 1 ++ ws ++ mv.drop 1) (fun vs zs => vs ++ [V.non] ++ zs ++ [V.str "000"]) :=
  FR.kb0 (ps := psS) T.F_Start___init__ 1 ["group", "passes"] [("default", .non), ("umask", .str "000")] (fun us mv ws => us ++ mv.take 1 ++ ws ++ mv.drop 1) (by simp) (by simp) (fun a b c => ((a.append (vtake b 1)).append c).append (vdrop b 1)) fun D doc pm an cdv ct us mv ws h1 h2 h3 => match us, mv, ws, h1, h2, h3 with
    | [_], [_, _], [_, _], _, _, _ => ⟨_, _, _, _, _, _, rfl, rfl, ⟨_, _, _, _, _, _, rfl, rfl, rfl⟩⟩
theorem kbS_p (T : Txt w K mg A) : ∃ mv : List Value, KBn K A.d_Start___init__ psS 1 ["passes"] (fun us ws => us ++ mv.take 2 ++ ws ++ mv.drop 2) (fun vs zs => vs ++ [V.non, V.str "root"] ++ zs ++ [V.str "000"]) :=
  FR.kb0 (ps := psS) T.F_Start___init__ 1 ["passes"] [("default", .non), ("group", .str "root"), ("umask", .str "000")] (fun us mv ws => us ++ mv.take 2 ++ ws ++ mv.drop 2) (by simp) (by simp) (fun a b c => ((a.append (vtake b 2)).append c).append (vdrop b 2)) fun D doc pm an cdv ct us mv ws h1 h2 h3 => match us, mv, ws, h1, h2, h3 with
    | [_], [_, _, _], [_], _, _, _ => ⟨_, _, _, _, _, _, rfl, rfl, ⟨_, _, _, _, _, _, rfl, rfl, ⟨_, _, _, _, _, _, rfl, rfl, rfl⟩⟩⟩
theorem kbS_r (T : Txt w K mg A) : KBn K A.d_Start___init__ psS 1 ["umask", "passes", "group", "default"] (fun us ws => us ++ ws.reverse) (fun vs zs => vs ++ zs.reverse) := by
  obtain ⟨mv, h⟩ := FR.kb0 (ps := psS) T.F_Start___init__ 1 ["umask", "passes", "group", "default"] [] (fun us mv ws => us ++ ws.reverse) (by simp) (by simp) (fun a b c => a.append (vrev c)) fun D doc pm an cdv ct us mv ws h1 h2 h3 => match us, mv, ws, h1, h2, h3 with
    | [_], [], [_, _, _, _], _, _, _ => (show bindArgs _ _ = pure _ from rfl)
  exact h
theorem kbS_d (T : Txt w K mg A) : KBn K A.d_Start___init__ psS 1 ["default", "group", "passes", "umask"] (fun us ws => us ++ ws) (fun vs zs => vs ++ zs) := by
  obtain ⟨mv, h⟩ := FR.kb0 (ps := psS) T.F_Start___init__ 1 ["default", "group", "passes", "umask"] [] (fun us mv ws => us ++ ws) (by simp) (by simp) (fun a b c => a.append c) fun D doc pm an cdv ct us mv ws h1 h2 h3 => match us, mv, ws, h1, h2, h3 with
    | [_], [], [_, _, _, _], _, _, _ => (show bindArgs _ _ = pure _ from rfl)
  exact h
theorem bd_Start___init___0 (T : Txt w K mg A) : ∃ ds, Vals [V.non, V.str "root", V.bl false, V.str "000"] ds ∧ Binds K A.d_Start___init__ psS ds :=
  T.F_Start___init__.binds0 (ps := psS) 1 (by simp) rfl fun D doc pm an cdv ct us its h1 h2 => match us, its, h1, h2 with
    | [_], [_, _, _, _], _, _ => ⟨_, _, _, _, _, _, rfl, rfl, ⟨_, _, _, _, _, _, rfl, rfl, ⟨_, _, _, _, _, _, rfl, rfl, ⟨_, _, _, _, _, _, rfl, rfl, rfl⟩⟩⟩⟩
theorem ok_shown (T : Txt w K mg A) : FnOk P w K mg base CX0 3 A.f_shown A.d_shown ["_law_start"] (fun vs H Q _ => ∃ p v0 v1 v2 v3, vs = [.ref p] ∧ St A H p v0 v1 v2 v3 ∧ NewS (.lst [v0, v1, v2, v3]) Q H) := by
  refine T.F_shown.ok sc_shown (fun vs H Q E h => ?_) (fun cdv A_ outer s_ H vs Q E hr h => ?_)
  · obtain ⟨p, v0, v1, v2, v3, rfl, _⟩ := h
    rfl
  · obtain ⟨p, v0, v1, v2, v3, rfl, hs, q⟩ := h
    refine ⟨_, (pss_one (ps_ret (pe_lstS (pa_cons (pe_prop (pv 0) T.cl_Start T.pr_Start_default (ok_Start_default T) (hr.mono (by decide)) T.B_Start_default .nil pass0 rfl) (pa_cons (pe_prop (pv 0) T.cl_Start T.pr_Start_group (ok_Start_group T) (hr.mono (by decide)) T.B_Start_group .nil pass0 rfl) (pa_cons (pe_prop (pv 0) T.cl_Start T.pr_Start_passes (ok_Start_passes T) (hr.mono (by decide)) T.B_Start_passes .nil pass0 rfl) (pa_cons (pe_prop (pv 0) T.cl_Start T.pr_Start_umask (ok_Start_umask T) (hr.mono (by decide)) T.B_Start_umask .nil pass0 rfl) pa_nil))))))), ?_⟩
    obtain ⟨dx, hp⟩ := id hs
    refine ⟨_, rfl, p, dx, _, rfl, hp, _, _, _, _, _, rfl, hs, _, rfl, p, dx, _, rfl, hp, _, _, _, _, _, rfl, hs, _, rfl, p, dx, _, rfl, hp, _, _, _, _, _, rfl, hs, _, rfl, p, dx, _, rfl, hp, _, _, _, _, _, rfl, hs, ?_⟩
    exact ⟨(show 4 ≤ sizeLine by decide), q⟩
theorem opn_ne {A : Ads} {H : Hp} {x dx C : Addr} {o : HO} (hx : H x = none) (hdx : H dx = none) : Keep [] H (upd (upd H dx (.own x)) x (.ins C dx [])) := fun b u e _ => by
  rw [upd_ne (ne_of_none e hx), upd_ne (ne_of_none e hdx)]
  exact e
/-- a new start -/
theorem mk_St {H : Hp} {v0 v1 v2 v3 b : V} {k : Nat} {E : XK} {Q : VK} (fi : First A H v0 v1 v2 v3 k b) (en : Ends A k b E H) (q : k = 4 → ∀ p H', H p = none → Keep [] H H' → St A H' p v0 v1 v2 v3 → Q (.ref p) H') :
    ∀ x dx, H x = none → H dx = none → dx ≠ x → spSInit A [.ref x, v0, v1, v2, v3] (upd (upd H dx (.own x)) x (.ins A.C_Start dx [])) (fun v H2 => v = .non ∧ Q (.ref x) H2) E := fun x dx hx hdx hne => by
  have k2 : Keep [] H (upd (upd H dx (.own x)) x (.ins A.C_Start dx [])) := opn_ne (A := A) (o := .lst []) hx hdx
  exact ⟨x, dx, v0, v1, v2, v3, k, b, rfl, upd_same, fi.keep k2, en.mono k2, fun e H' k' h' => ⟨rfl, q e x H' hx (keep_of_new Keep.refl hx hdx k') ⟨dx, h'⟩⟩⟩
def spOpen (A : Ads) : Sp := fun vs H Q E => ∃ (tl : Addr) (v0 v1 v2 v3 b : V) (way : Int) (k : Nat), vs = [.ref tl, .int way] ∧ H tl = some (.lst [v0, v1, v2, v3]) ∧ First A H v0 v1 v2 v3 k b ∧ Ends A k b E H ∧ (k = 4 → ∀ p H', H p = none → Keep [] H H' → St A H' p v0 v1 v2 v3 → Q (.ref p) H')
theorem ok_opened (T : Txt w K mg A) : FnOk P w K mg base (L2.CX P w) 5 A.f_opened A.d_opened ["_law_parts", "_law_way"] (spOpen A) := by
  refine T.F_opened.okX sc_opened (fun vs H Q E h => ?_) (fun cdv A_ outer s_ H vs Q E hr h => ?_)
  · obtain ⟨tl, v0, v1, v2, v3, b, way, k, rfl, _⟩ := h
    rfl
  · obtain ⟨tl, v0, v1, v2, v3, b, way, k, rfl, htl, fi, en, q⟩ := h
    have a0 : atI [v0, v1, v2, v3] 0 = some v0 := atI_nat (j := 0) rfl
    have a1 : atI [v0, v1, v2, v3] 1 = some v1 := atI_nat (j := 1) rfl
    have a2 : atI [v0, v1, v2, v3] 2 = some v2 := atI_nat (j := 2) rfl
    have a3 : atI [v0, v1, v2, v3] 3 = some v3 := atI_nat (j := 3) rfl
    have sq : SqL K H tl [v0, v1, v2, v3] := .inl (.inl htl)
    refine ⟨_, (pss_cons (ps_if (pt_cmpR op_eq (pv 1) pe_int (nomark _)) (pss_one (ps_ret (pe_makeK0 T.mk_Start (ok_Start___init__ T) (hr.mono (by decide)) (by rfl) T.gC_Start (kbS_r T) (pxE rfl rfl rfl rfl) (pk_cons (pe_ix ix_list (pv 0) pe_int (fun _ _ => rfl)) (pk_cons (pe_ix ix_list (pv 0) pe_int (fun _ _ => rfl)) (pk_cons (pe_ix ix_list (pv 0) pe_int (fun _ _ => rfl)) (pk_cons (pe_ix ix_list (pv 0) pe_int (fun _ _ => rfl)) pk_nil))))))) pss_nil)
  (pss_one (ps_ret (pe_makeK0 T.mk_Start (ok_Start___init__ T) (hr.mono (by decide)) (by rfl) T.gC_Start (kbS_d T) (pxE rfl rfl rfl rfl) (pk_cons (pe_ix ix_list (pv 0) pe_int (fun _ _ => rfl)) (pk_cons (pe_ix ix_list (pv 0) pe_int (fun _ _ => rfl)) (pk_cons (pe_ix ix_list (pv 0) pe_int (fun _ _ => rfl)) (pk_cons (pe_ix ix_list (pv 0) pe_int (fun _ _ => rfl)) pk_nil)))))))), ?_⟩
    walk_at "rd"
    refine ifVI (fun c0 => ?_) (fun c0 => ?_)
    · walk_at "rd"
      exact mk_St fi en q
    · walk_at "rd"
      exact mk_St fi en q
def wd (k : Nat) : Str := if k = 0 then "list" else if k = 1 then "name" else if k = 2 then "node" else "digits"
def spTried (A : Ads) : Sp := fun vs H Q _ => ∃ (tl : Addr) (v0 v1 v2 v3 b : V) (k : Nat), vs = [.ref tl] ∧ H tl = some (.lst [v0, v1, v2, v3]) ∧ First A H v0 v1 v2 v3 k b ∧ k < 4 ∧ NewS (.lst [.str (wd k), b, .bl true]) Q H
theorem ok_tried (T : Txt w K mg A) : FnOk P w K mg base CX0 6 A.f_tried A.d_tried ["_law_parts"] (spTried A) := by
  refine T.F_tried.ok sc_tried (fun vs H Q E h => ?_) (fun cdv A_ outer s_ H vs Q E hr h => ?_)
  · obtain ⟨tl, v0, v1, v2, v3, b, k, rfl, _⟩ := h
    rfl
  · obtain ⟨tl, v0, v1, v2, v3, b, k, rfl, htl, fi, k4, q⟩ := h
    have W : Ow H [] H [] := Ow.start0
    refine ⟨_, (pss_cons (ps_try_asM (i := 1) rfl rfl sc_tried.nd rfl rfl (fun W pn xe tk _ => (pss_one (ps_expr (pe_callS (ok_opened T) (hr.mono (by decide)) (by rfl) T.g_opened T.F_opened.kp T.B_opened (fun σ => passAt tk σ) (pa_cons (pv 0) (pa_cons pe_int pa_nil))))))
  (ClausesOk.cons ⟨rfl, by decide, .inl T.low_InvalidList.gC⟩ (fun a oe cls d pn hz hf => (pss_one (ps_ret (pe_lstS (pa_cons pe_str (pa_cons (pe_byLow T.low_InvalidList hz hf (pv 1)) (pa_cons (pe_callB (call_isH hz hf) (by rfl) T.b_isinstance (by decide +kernel) (pa_cons (pv 1) (pa_cons (pe_gc rfl T.c_RightsError) pa_nil))) pa_nil)))))))
  (ClausesOk.cons ⟨rfl, by decide, .inl T.low_InvalidName.gC⟩ (fun a oe cls d pn hz hf => (pss_one (ps_ret (pe_lstS (pa_cons pe_str (pa_cons (pe_byLow T.low_InvalidName hz hf (pv 1)) (pa_cons (pe_callB (call_isH hz hf) (by rfl) T.b_isinstance (by decide +kernel) (pa_cons (pv 1) (pa_cons (pe_gc rfl T.c_RightsError) pa_nil))) pa_nil)))))))
  (ClausesOk.cons ⟨rfl, by decide, .inl T.low_InvalidNode.gC⟩ (fun a oe cls d pn hz hf => (pss_one (ps_ret (pe_lstS (pa_cons pe_str (pa_cons (pe_byLow T.low_InvalidNode hz hf (pv 1)) (pa_cons (pe_and (pe_callB (call_isH hz hf) (by rfl) T.b_isinstance (by decide +kernel) (pa_cons (pv 1) (pa_cons (pe_gc rfl T.c_RightsError) pa_nil))) (pe_one (pe_not (pe_callB (call_isH hz hf) (by rfl) T.b_isinstance (by decide +kernel) (pa_cons (pv 1) (pa_cons (pe_gc rfl T.c_MissingError) pa_nil)))))) pa_nil)))))))
  (ClausesOk.cons ⟨rfl, by decide, .inl T.low_InvalidDigits.gC⟩ (fun a oe cls d pn hz hf => (pss_one (ps_ret (pe_lstS (pa_cons pe_str (pa_cons (pe_byLow T.low_InvalidDigits hz hf (pv 1)) (pa_cons (pe_callB (call_isH hz hf) (by rfl) T.b_isinstance (by decide +kernel) (pa_cons (pv 1) (pa_cons (pe_gc rfl T.c_RightsError) pa_nil))) pa_nil)))))))
  ClausesOk.nil)))))
  (pss_one (ps_ret (pe_lstS (pa_cons pe_str pa_nil))))), ?_⟩
    walk_at "rd"
    refine ⟨tl, v0, v1, v2, v3, b, 0, k, rfl, htl, fi, ⟨fun e d H1 k1 e1 => ?_, fun e d H1 k1 e1 => ?_, fun e d H1 k1 e1 => ?_, fun e d H1 k1 e1 => ?_⟩, fun e => absurd e (by omega)⟩
    · subst e
      refine ⟨true, T.low_InvalidList.te, fun _ a0 ha => ?_, fun z => Bool.noConfusion z⟩
      have W1 := W.call0 k1
      walk_at "rd"
      refine ⟨d, b, rfl, e1, ?_⟩
      walk_at "rd"
      refine ⟨_, _, _, _, ⟨rfl, T.ec_InvalidList, d, _, rfl, e1⟩, rfl, .own _, T.kit_InvalidList_RightsError, ?_⟩
      walk_at "rd"
      rename_i p3 H3 np3 sp3 kp3 hp3 W3
      exact q.to p3 H3 (k1.free np3) sp3 W3.keep hp3
    · subst e
      refine ⟨false, T.exm_InvalidName_InvalidList, fun z => Bool.noConfusion z, fun _ => ?_⟩
      refine ⟨true, T.low_InvalidName.te, fun _ a0 ha => ?_, fun z => Bool.noConfusion z⟩
      have W1 := W.call0 k1
      walk_at "rd"
      refine ⟨d, b, rfl, e1, ?_⟩
      walk_at "rd"
      refine ⟨_, _, _, _, ⟨rfl, T.ec_InvalidName, d, _, rfl, e1⟩, rfl, .own _, T.kit_InvalidName_RightsError, ?_⟩
      walk_at "rd"
      rename_i p3 H3 np3 sp3 kp3 hp3 W3
      exact q.to p3 H3 (k1.free np3) sp3 W3.keep hp3
    · subst e
      refine ⟨false, T.exm_InvalidNode_InvalidList, fun z => Bool.noConfusion z, fun _ => ?_⟩
      refine ⟨false, T.exm_InvalidNode_InvalidName, fun z => Bool.noConfusion z, fun _ => ?_⟩
      refine ⟨true, T.low_InvalidNode.te, fun _ a0 ha => ?_, fun z => Bool.noConfusion z⟩
      have W1 := W.call0 k1
      walk_at "rd"
      refine ⟨d, b, rfl, e1, ?_⟩
      walk_at "rd"
      refine ⟨_, _, _, _, ⟨rfl, T.ec_InvalidNode, d, _, rfl, e1⟩, rfl, .own _, T.kit_InvalidNode_RightsError, ?_⟩
      walk_at "rd"
      refine ⟨_, _, _, _, ⟨rfl, T.ec_InvalidNode, d, _, rfl, e1⟩, rfl, .own _, T.kit_InvalidNode_MissingError, ?_⟩
      walk_at "rd"
      rename_i p3 H3 np3 sp3 kp3 hp3 W3
      exact q.to p3 H3 (k1.free np3) sp3 W3.keep hp3
    · subst e
      refine ⟨false, T.exm_InvalidDigits_InvalidList, fun z => Bool.noConfusion z, fun _ => ?_⟩
      refine ⟨false, T.exm_InvalidDigits_InvalidName, fun z => Bool.noConfusion z, fun _ => ?_⟩
      refine ⟨false, T.exm_InvalidDigits_InvalidNode, fun z => Bool.noConfusion z, fun _ => ?_⟩
      refine ⟨true, T.low_InvalidDigits.te, fun _ a0 ha => ?_, fun z => Bool.noConfusion z⟩
      have W1 := W.call0 k1
      walk_at "rd"
      refine ⟨d, b, rfl, e1, ?_⟩
      walk_at "rd"
      refine ⟨_, _, _, _, ⟨rfl, T.ec_InvalidDigits, d, _, rfl, e1⟩, rfl, .own _, T.kit_InvalidDigits_RightsError, ?_⟩
      walk_at "rd"
      rename_i p3 H3 np3 sp3 kp3 hp3 W3
      exact q.to p3 H3 (k1.free np3) sp3 W3.keep hp3
def accU : AcR := ⟨6, 4, 0, [(Str.ofString "ann", 1)], [], some 5⟩
theorem tri640 : Tri (Str.ofString "640") 54 52 48 := ⟨by decide +kernel, by decide +kernel, by decide +kernel, by decide +kernel⟩
theorem us_ann : Us (Str.ofString "ann") := ⟨⟨by decide +kernel, by decide +kernel, by decide +kernel⟩, by decide +kernel⟩
theorem dg_ann : Dg [(Str.ofString "ann", 1)] where
  nd := by simp
  us := fun e h => by rw [List.mem_singleton.mp h]; exact us_ann
  ds := fun e h => by rw [List.mem_singleton.mp h]; decide
  l6 := by simp
theorem accU_ok : AccOk accU := ⟨by decide, by decide, by decide, dg_ann, dg_nil, .inr ⟨5, rfl, by decide, by decide⟩⟩
theorem sd_ann : sd [(Str.ofString "ann", 1)] = [(Str.ofString "ann", 1)] := by
  rw [sd_eq (m := [(Str.ofString "ann", 1)]) (ys := [Str.ofString "ann"]) (List.Perm.refl _) rfl]
  decide +kernel
theorem three_G3 {s : Str} {l : List Nat} (e : tl s = l) (h3 : l.length = 3) (h : ∀ c ∈ l, dg c = true) : G3 (.str s) := by
  have hl : s.length = 3 := by rw [len_tl, e]; exact h3
  have ha : ∀ c ∈ tl s, c < 128 := fun c hc => dg_lt (h c (e ▸ hc))
  refine ⟨s, rfl, ?_, ?_, ?_⟩
  · have h1 : s.cps.toList.all (fun c => decide (c < 16 ^ 8)) = true := List.all_eq_true.mpr fun c hc => decide_eq_true (Nat.lt_trans (ha c hc) (by decide))
    have h2 : s.cps.size ≤ 200 := by have : s.length = s.cps.size := rfl; omega
    unfold okB
    simp only [PyData.showable, PyData.depth, PyData.leavesShort, PyData.weight, isDc, Bool.true_and, Bool.and_true, Bool.or_false, Bool.and_eq_true, decide_eq_true_eq]
    exact ⟨⟨⟨rfl, h1⟩, decide_eq_true h2⟩, by
      show (PyData.strOk s && decide ((PyData.str s).depth ≤ 64)) = true
      rw [Bool.and_eq_true]
      refine ⟨?_, rfl⟩
      show (s.cps.all fun c => decide (c < 0x110000)) = true
      rw [all_tl]
      exact List.all_eq_true.mpr fun c hc => decide_eq_true (Nat.lt_trans (ha c hc) (by decide))⟩
  · exact List.all_eq_true.mpr fun c hc => decide_eq_true (ha c hc)
  · unfold digs
    rw [decide_eq_true hl, e, Bool.true_and]
    exact List.all_eq_true.mpr h
def spPart (A : Ads) : Sp := fun vs H Q _ => ∃ (b : Addr) (n : Nat) (x y z at_ : Int), vs = [.ref b, .int at_] ∧ H b = some (bagO x y z) ∧ BagOk n x y z ∧ n < 100000 ∧ 0 ≤ at_ ∧ at_ ≤ 3 ∧
  ∀ (v : V) (x' y' z' : Int) (H' : Hp), BagOk (n + 3) x' y' z' → Keep [b] H H' → H' b = some (bagO x' y' z') → Fit A H' at_ v → Q v H'
theorem ok_part (T : Txt w K mg A) : FnOk P w K mg base CX0 13 A.f_part A.d_part ["_law_bag_here", "_law_at"] (spPart A) := by
  refine T.F_part.ok sc_part (fun vs H Q E h => ?_) (fun cdv A_ outer s H vs Q E hr h => ?_)
  · obtain ⟨b, n, x, y, z, at_, rfl, _⟩ := h
    rfl
  · obtain ⟨b, n, x, y, z, at_, rfl, hb, ok, hn, a0, a4, q⟩ := h
    have W := Ow.start1 hb
    refine ⟨_, (pss_cons (ps_if (pt_cmpR op_eq (pv 1) pe_int (nomark _)) (pss_one (ps_ret (pe_ix ix_list (pe_lstS (pa_cons pe_non (pa_cons (ClX.pe_cmeth (pe_gc rfl T.c_AccessList) T.cr_AccessList T.cm_AccessList_plain ((ok_AccessList_plain T).raw T.B_AccessList_plain .nil) (hr.mono (by decide)) pass0 (pa_cons pe_str pa_nil)) (pa_cons (pe_makeK T.mk_AccessList (ok_AccessList___init__ T) (hr.mono (by decide)) (by rfl) T.gC_AccessList (kb_AccessList T).choose_spec pass0 (pa_cons pe_str (pa_cons pe_str (pa_cons pe_str pa_nil))) (pk_cons (pe_disp (pps_cons pe_str pe_str pps_nil) (by rfl) (by rfl) (fun z => by cases z) (by decide)) pk_nil)) pa_nil)))) (pe_call (ok_take T) (hr.mono (by decide)) (by rfl) T.g_take T.F_take.kp T.B_take .nil pass0 (pa_cons (pv 0) (pa_cons pe_int pa_nil))) (fun _ _ => rfl)))) pss_nil)
  (pss_cons (ps_if (pt_cmpR op_eq (pv 1) pe_int (nomark _)) (pss_one (ps_ret (pe_ix ix_list (pe_lstS (pa_cons pe_str (pa_cons pe_str (pa_cons pe_str (pa_cons pe_str pa_nil))))) (pe_call (ok_take T) (hr.mono (by decide)) (by rfl) T.g_take T.F_take.kp T.B_take .nil pass0 (pa_cons (pv 0) (pa_cons pe_int pa_nil))) (fun _ _ => rfl)))) pss_nil)
  (pss_cons (ps_if (pt_cmpR op_eq (pv 1) pe_int (nomark _)) (pss_one (ps_ret (pe_cmpR op_eq (pe_call (ok_take T) (hr.mono (by decide)) (by rfl) T.g_take T.F_take.kp T.B_take .nil pass0 (pa_cons (pv 0) (pa_cons pe_int pa_nil))) pe_int (nomark _)))) pss_nil)
  (pss_one (ps_ret (pe_join pe_str (pe_lc (own := [("_law_k", 2)]) (g := gName 2) rfl sc_part.nd (pi_range1 (by rfl) T.b_range (pa_cons pe_int pa_nil)) (blkOk_by (own := [("_law_k", 2)]) (N := N_part) (sc := defScope s_part) (by decide +kernel)) (fun _ _ _ _ _ => pg_name (i := 2) sc_part.nd rfl (Or.inl rfl)) (fun _ _ _ _ _ => pts_nil) (fun _ _ _ _ _ => (pe_ix ix_str pe_str (pe_call (ok_take T) (hr.mono (by decide)) (by rfl) T.g_take T.F_take.kp T.B_take .nil pass0 (pa_cons (pv 0) (pa_cons pe_int pa_nil))) (fun _ _ => rfl)))))))))), ?_⟩
    have : at_ = 0 ∨ at_ = 1 ∨ at_ = 2 ∨ at_ = 3 := by omega
    rcases this with rfl | rfl | rfl | rfl
    · walk_at "rd"
      refine ⟨_, 54, 52, 48, rfl, tri640, fun al1 H1 n1 k1 ha1 pu1 pg1 => ?_⟩
      have W1 := W.call0 k1
      refine fun D nD => ⟨upd_same, [(.inr (Str.ofString "ann"), .str (Str.ofString "x"))], rfl, (show 1 ≤ 15 by decide), ?_⟩
      have k2 : Keep [] H1 (upd (upd H1 D (.dK [])) D (.dK (mergeK [] [(.inr (Str.ofString "ann"), V.str (Str.ofString "x"))]))) := by
        rw [upd_again]
        exact keep_new nD
      have hD2 : upd (upd H1 D (.dK [])) D (.dK (mergeK [] [(.inr (Str.ofString "ann"), V.str (Str.ofString "x"))])) D = some (.dK [(.inr (Str.ofString "ann"), V.str (Str.ofString "x"))]) := upd_same
      generalize upd (upd H1 D (.dK [])) D (.dK (mergeK [] [(.inr (Str.ofString "ann"), V.str (Str.ofString "x"))])) = H2 at k2 hD2 ⊢
      refine ⟨rfl, rfl, fun p dx hp hdx hne => ?_⟩
      have k3 : Keep [] H2 (upd (upd H2 dx (.own p)) p (.ins A.C_AccessList dx [])) := opn_ne (A := A) (o := .lst []) hp hdx
      refine ⟨p, dx, .str (Str.ofString "rw"), .str (Str.ofString "r"), .str (Str.ofString ""), .ref D, accU, rfl, upd_same, .inr ⟨_, rfl, by decide +kernel⟩, .inr ⟨_, rfl, by decide +kernel⟩, .inr ⟨_, rfl, by decide +kernel⟩,
        .inr ⟨D, _, rfl, k3 _ _ hD2 (by simp), .cons ⟨rfl, _, rfl, by decide +kernel⟩ .nil⟩, rfl, .inr ⟨(fun z => by cases z), ?_⟩, accU_ok, fun H3 k4 al pu pg => ⟨rfl, ?_⟩⟩
      · show some (5 : Int) = some (orAll ((4 : Int) :: (sd [(Str.ofString "ann", (1 : Int))]).map (·.2)))
        rw [sd_ann]
        decide +kernel
      have k5 : Keep [] H2 H3 := keep_of_new Keep.refl hp hdx k4
      have W3 := W1.call0 (k2.trans k5)
      have g1 : Ac A H3 al1 (accD (dN 54) (dN 52) (dN 48)) := ⟨ha1.keep (k2.trans k5), ⟨by decide, by decide, by decide, dg_nil, dg_nil, .inl ⟨rfl, rfl, rfl⟩⟩, pu1, pg1⟩
      have g2 : Ac A H3 p accU := ⟨al, accU_ok, pu, pg⟩
      refine ⟨(show 3 ≤ sizeLine by decide), NewS.mk fun l H4 nl sl kl hl => ?_⟩
      have W4 := W3.call0 kl
      walk_at "rd"
      walk_at "take"
      rename_i d x2 y2 z2 H9 d0 d1 ok2 kp9 hb9 W9
      have h4b := W4.get 0 rfl
      have hl9 : H9 l = some _ := kp9 _ _ hl (by simpa using ne_of hl h4b (fun z => by cases z))
      obtain ⟨v, hv, hm⟩ := lst_at hl9 rfl d0 d1
      refine ⟨_, _, _, _, rfl, rfl, .inl (.inl hl9), hv, ?_⟩
      have fin : G0 A H9 v → Q v H9 := fun h => q v x2 y2 z2 H9 (ok2.mono (by omega)) W9.keep hb9 ⟨fun _ => h, fun z => absurd z (by decide), fun z => absurd z (by decide), fun z => absurd z (by decide)⟩
      show Q v H9
      simp only [List.mem_cons, List.not_mem_nil, or_false] at hm
      rcases hm with rfl | rfl | rfl
      · exact fin (.inl rfl)
      · exact fin (.inr ⟨al1, _, rfl, (g1.keep kl).keepM (lm1 h4b) kp9⟩)
      · exact fin (.inr ⟨p, _, rfl, (g2.keep kl).keepM (lm1 h4b) kp9⟩)
    · walk_at "rd"
      walk_at "take"
      rename_i d x2 y2 z2 H9 d0 d1 ok2 kp9 hb9 W9
      obtain ⟨v, hv, hm⟩ := lst_at (W9.get 0 rfl) rfl d0 d1
      refine ⟨_, _, _, _, rfl, rfl, W9.sq 0 rfl, hv, ?_⟩
      have fin : ∀ s, v = .str s → Nm s → Q v H9 := fun s e hs => q v x2 y2 z2 H9 (ok2.mono (by omega)) W9.keep hb9 ⟨fun z => absurd z (by decide), fun _ => ⟨s, e, hs⟩, fun z => absurd z (by decide), fun z => absurd z (by decide)⟩
      show Q v H9
      simp only [List.mem_cons, List.not_mem_nil, or_false] at hm
      rcases hm with hm | hm | hm | hm
      · exact fin _ hm ⟨by decide +kernel, by decide +kernel, by decide +kernel⟩
      · exact fin _ hm ⟨by decide +kernel, by decide +kernel, by decide +kernel⟩
      · exact fin _ hm ⟨by decide +kernel, by decide +kernel, by decide +kernel⟩
      · exact fin _ hm ⟨by decide +kernel, by decide +kernel, by decide +kernel⟩
    · walk_at "rd"
      walk_at "take"
      rename_i d x2 y2 z2 H9 d0 d1 ok2 kp9 hb9 W9
      refine ⟨rfl, ?_⟩
      exact q _ x2 y2 z2 H9 (ok2.mono (by omega)) W9.keep hb9 ⟨fun z => absurd z (by decide), fun z => absurd z (by decide), fun _ => ⟨_, rfl⟩, fun z => absurd z (by decide)⟩
    · walk_at "rd"
      intro D hD
      refine lc_rg (fun i H' => ∃ (l : List Nat) (x y z : Int), l.length = i ∧ (∀ c ∈ l, dg c = true) ∧ BagOk (n + i) x y z ∧ Ow H [b] H' [(D, .lst ((sg l).map V.str)), (b, bagO x y z)]) ?_ ?_ ?_
      · exact ⟨[], _, _, _, rfl, by simp, ok, W.new hD⟩
      · rintro i H5 hi ⟨l, x5, y5, z5, hl, hl2, ok5, W5⟩
        have hsz : (Str.ofString "01234567").length ≤ sizeLine := size_le (by decide +kernel)
        have hsl : (Str.ofString "01234567").length = 8 := by decide +kernel
        walk_at "rd"
        walk_at "take"
        rename_i d6 x6 y6 z6 H6 d60 d61 ok6 kp6 hb6 W6
        obtain ⟨e, he, hm⟩ := atI_in (xs := (Str.ofString "01234567").cps.toList) d60 (by rw [show ((Str.ofString "01234567").cps.toList.length : Int) = ((Str.ofString "01234567").length : Int) by rw [len_tl]]; rw [hsl]; exact d61)
        refine ⟨_, _, _, rfl, rfl, hsz, he, ?_⟩
        refine ⟨_, W6.get 0 rfl, size_ok (by rw [List.length_map, sg_len]; omega), l ++ [e], x6, y6, z6, by rw [List.length_append, hl]; rfl, ?_, ok6.mono (by omega), ?_⟩
        · intro d hd
          rcases List.mem_append.mp hd with h | h
          · exact hl2 d h
          · rw [List.mem_singleton.mp h]; exact decide_eq_true hm
        · rw [sg_app]
          exact W6.set 0 rfl
      · rintro H7 ⟨l, x7, y7, z7, hl, hl2, ok7, W7⟩
        walk_at "rd"
        refine ⟨_, _, sg l, rfl, rfl, .inl (W7.sq 0 rfl), by rw [sum_one sg_one, sg_len, show (Str.ofString "").length = 0 by decide +kernel]; omega, ?_⟩
        have h3 : l.length = 3 := hl
        refine q _ x7 y7 z7 H7 ok7 W7.keep (W7.get 1 rfl) ⟨fun z => absurd z (by decide), fun z => absurd z (by decide), fun z => absurd z (by decide), fun _ => ?_⟩
        exact three_G3 (tl_joined_sg l) h3 hl2
end
end K51
namespace K51
open PySem PySem.Spec PyProof.Rows L2 FR TL
open C8 (pss_cut pe_gc)
open StX (pe_callS2 pa_star)
theorem BadAt.keepA {H H' : Hp} {at_ : Int} {v : V} (h : BadAt H at_ v) (k : ∀ a o, v = .ref a → H a = some o → H' a = some o) : BadAt H' at_ v := by
  obtain ⟨e, he, hb⟩ := h
  have ob : okB e = true := by
    unfold badB at hb
    simp only [Bool.and_eq_true] at hb
    exact hb.1.2
  exact ⟨e, ((⟨he, ob⟩ : Odd H v e).keepA k).s, hb⟩
theorem bad_parts {e : PyData} {at_ : Int} (h : badB at_ e = true) : okB e = true ∧ ascB e = true ∧ (at_ = 0 → isNo e = false) ∧ (at_ = 1 → nmB e = false) ∧ (at_ = 2 → isBl e = false) ∧ (at_ = 3 → digB e = false) := by
  unfold badB at h
  simp only [Bool.and_eq_true] at h
  refine ⟨h.1.2, h.1.1, fun z => ?_, fun z => ?_, fun z => ?_, fun z => ?_⟩
  · have h := h.2
    subst z
    simpa using h
  · have h := h.2
    subst z
    simpa using h
  · have h := h.2
    subst z
    simpa using h
  · have h := h.2
    subst z
    simpa using h
/-- one of the four: bad where the places tell so, and no list that changes -/
def Slot (A : Ads) (H : Hp) (L : List Addr) (ps : List Int) (n : Nat) (v : V) : Prop := ((n : Int) ∈ ps → BadAt H n v ∧ ∀ a, v = .ref a → a ∉ L) ∧ ((n : Int) ∉ ps → Fit A H n v)
theorem Slot.keepM {A : Ads} {H H' : Hp} {L M : List Addr} {ps : List Int} {n : Nat} {v : V} (h : Slot A H L ps n v) (sub : ∀ a ∈ M, a ∈ L) (l : LM M H) (k : Keep M H H') : Slot A H' L ps n v :=
  ⟨fun m => ⟨(h.1 m).1.keepA fun a o e ho => k a o ho fun hm => (h.1 m).2 a e (sub a hm), (h.1 m).2⟩, fun m => (h.2 m).keepM l k⟩
def four (f : Nat → V) : List V := [f 0, f 1, f 2, f 3]
theorem ix_four {f : Nat → V} {n : Nat} (h : n < 4) : ixN (four f).length (n : Int) = some n := by
  have : n = 0 ∨ n = 1 ∨ n = 2 ∨ n = 3 := by omega
  rcases this with rfl | rfl | rfl | rfl <;> rfl
theorem four_set {f : Nat → V} {n : Nat} {v : V} (h : n < 4) : (four f).set n v = four (fun m => if m = n then v else f m) := by
  have : n = 0 ∨ n = 1 ∨ n = 2 ∨ n = 3 := by omega
  rcases this with rfl | rfl | rfl | rfl <;> rfl
theorem Keep.fresh {M : List Addr} {H0 Hi Hj : Hp} (k0 : Keep [] H0 Hi) (k : Keep M Hi Hj) (f : ∀ x ∈ M, H0 x = none) : Keep [] H0 Hj := fun x o ho _ => k x o (k0 x o ho (by simp)) fun hm => by rw [f x hm] at ho; cases ho
theorem lm2 {H : Hp} {b tl : Addr} {x y z : Int} {xs : List V} (h : H b = some (bagO x y z)) (h2 : H tl = some (.lst xs)) : LM [b, tl] H := fun a ha => by
  rcases List.mem_cons.mp ha with rfl | ha
  · exact ⟨_, h⟩
  · rw [List.mem_singleton.mp ha]; exact ⟨_, h2⟩
/-- two sorted numbers -/
theorem two_sorted {d1 d2 : Int} {ns : List Int} (a0 : 0 ≤ d1) (a1 : d1 < 4) (b0 : 0 ≤ d2) (b1 : d2 < 4) (p : ns.Perm [d1, d2]) (s : ns.Pairwise (· ≤ ·)) : ∃ m n : Nat, ns = [(m : Int), (n : Int)] ∧ m ≤ n ∧ n < 4 := by
  have hl := p.length_eq
  match ns, hl with
  | [u, v], _ =>
    have hu : u = d1 ∨ u = d2 := by simpa using p.mem_iff.mp (by simp : u ∈ [u, v])
    have hv : v = d1 ∨ v = d2 := by simpa using p.mem_iff.mp (by simp : v ∈ [u, v])
    have uv : u ≤ v := by simpa using s
    refine ⟨u.toNat, v.toNat, ?_, by omega, by omega⟩
    rw [Int.toNat_of_nonneg (by omega), Int.toNat_of_nonneg (by omega)]
theorem first_of {A : Ads} {H : Hp} {L : List Addr} {ps : List Int} {f : Nat → V} (h : ∀ n, n < 4 → Slot A H L ps n (f n)) {m : Nat} (hm : (m : Int) ∈ ps) (le : ∀ y ∈ ps, (m : Int) ≤ y) (m4 : m < 4) : First A H (f 0) (f 1) (f 2) (f 3) m (f m) := by
  have no : ∀ n : Nat, n < m → Fit A H n (f n) := fun n hn => (h n (by omega)).2 fun z => by have := le _ z; omega
  obtain ⟨e, he, hb⟩ := ((h m m4).1 hm).1
  obtain ⟨ob, as, b0, b1, b2, b3⟩ := bad_parts hb
  have : m = 0 ∨ m = 1 ∨ m = 2 ∨ m = 3 := by omega
  rcases this with rfl | rfl | rfl | rfl
  · exact .b0 e ⟨he, ob⟩ (b0 rfl)
  · exact .b1 e ((no 0 (by decide)).f0 rfl) ⟨he, ob⟩ (b1 rfl) as
  · exact .b2 e ((no 0 (by decide)).f0 rfl) ((no 1 (by decide)).f1 rfl) ⟨he, ob⟩ (b2 rfl)
  · exact .b3 e ((no 0 (by decide)).f0 rfl) ((no 1 (by decide)).f1 rfl) ((no 2 (by decide)).f2 rfl) ⟨he, ob⟩ (b3 rfl) as
theorem wd_ok (m : Nat) : okB (.str (wd m)) = true := by
  unfold wd
  repeat' split
  all_goals decide +kernel
theorem at_wd {n : Nat} (h : n < 4) : atI [V.str (Str.ofString "list"), .str (Str.ofString "name"), .str (Str.ofString "node"), .str (Str.ofString "digits")] (n : Int) = some (.str (wd n)) := by
  have : n = 0 ∨ n = 1 ∨ n = 2 ∨ n = 3 := by omega
  rcases this with rfl | rfl | rfl | rfl <;> exact atI_nat rfl
theorem at_four {f : Nat → V} {n : Nat} (h : n < 4) : atI (four f) (n : Int) = some (f n) := by
  have : n = 0 ∨ n = 1 ∨ n = 2 ∨ n = 3 := by omega
  rcases this with rfl | rfl | rfl | rfl <;> exact atI_nat rfl
section
variable {P : Program} {w : World} {K : PySem.W.Frag} {mg : Str → Option Value} {base : Heap} {A : Ads}
set_option pp.maxSteps 300
def R_odds (A : Ads) : TS := fun D σ H => ∃ (b tl : Addr) (f : Nat → V) (x y z : Int) (s0 s1 s4 s5 s6 s7 s8 s9 : Option V), σ = [s0, s1, some (.ref b), some (.ref tl), s4, s5, s6, s7, s8, s9] ∧ H b = some (bagO x y z) ∧ BagOk 50 x y z ∧ H tl = some (.lst (four f)) ∧ (∀ n : Nat, n < 4 → Fit A H (n : Int) (f n)) ∧
  ∀ t7 t8 t9 H', Keep [b, tl] H H' → D.nx [s0, s1, some (.ref b), some (.ref tl), s4, s5, s6, t7, t8, t9] H'
theorem blk_odds (T : Txt w K mg A) {cdv : Value} {A_ : Around} {outer : List Env} {s_ : Shared} {H : Hp} {E : XK} (hgd : A_.guards = some []) (hr : Room 13 (A_.deeper (envOfC "law" (defScope s_law) s_.heap.objs.size A.f_law cdv))) : PSs (cxOf CX0 P w K mg base N_law "law" (defScope s_law) A.f_law cdv A_ outer s_ H E).nox (List.drop 7 (bdF (nth (defBody s_law) 1))) (R_odds A) := by
  refine pss_b (pss_cons (ps_set (i := 7) sc_law.nd rfl (.inl rfl) (pe_callB cr_sorted (by rfl) T.b_sorted (by decide +kernel) (pa_cons (pe_lstS (pa_cons (pe_call (ok_take T) (hr.mono (by decide)) (by rfl) T.g_take T.F_take.kp T.B_take .nil pass0 (pa_cons (pv 2) (pa_cons pe_int pa_nil))) (pa_cons (pe_call (ok_take T) (hr.mono (by decide)) (by rfl) T.g_take T.F_take.kp T.B_take .nil pass0 (pa_cons (pv 2) (pa_cons pe_int pa_nil))) pa_nil))) pa_nil)))
  (pss_cons (ps_for PassesOwn.never rfl (pi_list (pv 7)) (pg_name (i := 8) sc_law.nd rfl (.inl rfl)) (pss_one (ps_asg (pe_call (ok_odd T) (hr.mono (by decide)) (by rfl) T.g_odd T.F_odd.kp T.B_odd .nil pass0 (pa_cons (pv 2) (pa_cons (pv 8) pa_nil))) (pg_sub (pv 3) (pv 8) set_listN))))
  (pss_cons (ps_set (i := 9) sc_law.nd rfl (.inl rfl) (pe_lstS (pa_cons (pe_ix ix_list (pe_lstS (pa_cons pe_str (pa_cons pe_str (pa_cons pe_str (pa_cons pe_str pa_nil))))) (pe_ix ix_list (pv 7) pe_int (fun _ _ => rfl)) (fun _ _ => rfl)) (pa_cons (pe_ix ix_list (pv 3) (pe_ix ix_list (pv 7) pe_int (fun _ _ => rfl)) (fun _ _ => rfl)) (pa_cons pe_bl pa_nil)))))
  (pss_one (ps_if (pt_cmpR op_ne (pe_callB (call_reprX hgd (u65 hr)) (by rfl) T.b_repr (by decide +kernel) (pa_cons (pe_call (ok_tried T) (hr.mono (by decide)) (by rfl) T.g_tried T.F_tried.kp T.B_tried .nil pass0 (pa_cons (pv 3) pa_nil)) pa_nil)) (pe_callB (call_reprX hgd (u65 hr)) (by rfl) T.b_repr (by decide +kernel) (pa_cons (pv 9) pa_nil)) (nomark _)) (pss_one (ps_ret pe_bl)) pss_nil))))) ?_
  rintro D σ H ⟨b, tl, f, x, y, z, s0, s1, s4, s5, s6, s7, s8, s9, rfl, hb, ok, htl, gd, q⟩
  have nbt : tl ≠ b := fun e => by
    rw [e, hb] at htl
    exact absurd (HO.lst.inj (Option.some.inj htl) |> congrArg List.length) (show ¬ (3 = 4) by decide)
  have W : Ow H [b] H [(b, bagO x y z)] := Ow.start1 hb
  walk_at "rd"
  walk_at "take"
  rename_i d1 x1 y1 z1 H1 d10 d11 ok1 kp1 hb1 W1
  walk_at "rd"
  walk_at "take"
  rename_i d2 x2 y2 z2 H2 d20 d21 ok2 kp2 hb2 W2
  walk_at "rd"
  rename_i p1 H3 np1 sp1 kp1 hp1 W3
  have k3 : Keep [b] H H3 := W3.keep
  have hb3 : H3 b = some (bagO x2 y2 z2) := W3.get 1 rfl
  have htl3 : H3 tl = some (.lst (four f)) := k3 _ _ htl (by simpa using nbt)
  refine ⟨p1, [d1, d2], rfl, .inl (.inl hp1), (show 2 < 64 by decide), fun ns p perm pw np => ?_⟩
  obtain ⟨m, n, rfl, mn, n4⟩ := two_sorted d10 d11 d20 d21 perm pw
  have k4 := keep_new (o := .lst (([(m : Int), (n : Int)] : List Int).map V.int)) np
  have h4 : upd H3 p (.lst (([(m : Int), (n : Int)] : List Int).map V.int)) p = some (.lst [.int (m : Int), .int (n : Int)]) := upd_same
  generalize upd H3 p (.lst (([(m : Int), (n : Int)] : List Int).map V.int)) = H4 at k4 h4 ⊢
  have hb4 := k4 _ _ hb3 (by simp)
  have htl4 := k4 _ _ htl3 (by simp)
  have K4 : Keep [b, tl] H H4 := fun a o e na => k4 _ _ (k3 _ _ e fun z => na (by rw [List.mem_singleton.mp z]; simp)) (by simp)
  have gd4 : ∀ n : Nat, n < 4 → Fit A H4 (n : Int) (f n) := fun n hn => ((gd n hn).keepM (lm1 hb) k3).keep k4
  have npb : p ≠ b := fun e => by rw [e, hb3] at np; cases np
  have npt : p ≠ tl := fun e => by rw [e, htl3] at np; cases np
  clear kp1 hp1 W3 np1 sp1 k3 hb3 htl3 k4 np perm pw W1 W2 hb1 hb2 gd
  refine ⟨_, rfl, p, rfl, ⟨_, .inl (.inl h4)⟩, ?_⟩
  refine for_li (K := K) (a := p) (xs := [V.int (m : Int), .int (n : Int)]) (fun pre σ H' => (∃ y8, σ = [s0, s1, some (.ref b), some (.ref tl), s4, s5, s6, some (.ref p), y8, s9]) ∧ Keep [b, tl] H H' ∧ H' p = some (.lst [.int (m : Int), .int (n : Int)]) ∧ ∃ (x y z : Int) (g : Nat → V), H' b = some (bagO x y z) ∧ BagOk (52 + pre.length) x y z ∧ H' tl = some (.lst (four g)) ∧
    ∀ u : Nat, u < 4 → Slot A H' [b, tl] (([(m : Int), (n : Int)] : List Int).take pre.length) u (g u)) ⟨⟨_, rfl⟩, K4, h4, x2, y2, z2, f, hb4, ok2, htl4, fun u hu => ⟨(fun h => by cases h), fun _ => gd4 u hu⟩⟩ (fun pre post σ H' _ h => .inl (.inl h.2.2.1)) ?_ ?_
  · rintro pre v post σ H5 ex ⟨⟨y8, rfl⟩, K5, h5, x5, y5, z5, g, hb5, ok5, htl5, sl5⟩
    have hv : [V.int (m : Int), .int (n : Int)][pre.length]? = some v := by rw [ex]; simp
    have lp : pre.length < 2 := (List.getElem?_eq_some_iff.mp hv).1
    obtain ⟨u, rfl, eu, u4⟩ : ∃ u : Nat, v = .int (u : Int) ∧ ([(m : Int), (n : Int)] : List Int).take (pre.length + 1) = ([(m : Int), (n : Int)] : List Int).take pre.length ++ [(u : Int)] ∧ u < 4 := by
      have : pre.length = 0 ∨ pre.length = 1 := by omega
      rcases this with e | e
      · rw [e] at hv ⊢
        cases hv
        exact ⟨m, rfl, rfl, by omega⟩
      · rw [e] at hv ⊢
        cases hv
        exact ⟨n, rfl, rfl, n4⟩
    refine ⟨_, rfl, _, rfl, b, _, x5, y5, z5, (u : Int), rfl, hb5, ok5, by omega, by omega, by omega, fun v x6 y6 z6 H6 ok6 k6 hb6 bad fresh => ?_⟩
    have htl6 := k6 _ _ htl5 (by simpa using nbt)
    have h6 := k6 _ _ h5 (by simpa using npb)
    have vL : ∀ a, v = .ref a → a ∉ [b, tl] := fun a e hm => by
      have z := fresh a e
      simp only [List.mem_cons, List.not_mem_nil, or_false] at hm
      rcases hm with rfl | rfl
      · rw [hb5] at z; cases z
      · rw [htl5] at z; cases z
    refine ⟨_, rfl, _, rfl, tl, four g, _, u, rfl, rfl, htl6, ix_four u4, ⟨fun H7 k7 h7 => ?_⟩⟩
    rw [four_set u4] at h7
    have hb7 := k7 _ _ hb6 (by simpa using Ne.symm nbt)
    have hp7 := k7 _ _ h6 (by simpa using npt)
    have l6 : LM [tl] H6 := fun a ha => by rw [List.mem_singleton.mp ha]; exact ⟨_, htl6⟩
    have bad7 : BadAt H7 u v := bad.keepA fun a o e ho => k7 a o ho fun hm => vL a e (by rw [List.mem_singleton.mp hm]; simp)
    refine ⟨⟨_, rfl⟩, fun a o e na => k7 _ _ (k6 _ _ (K5 _ _ e na) (by simp at na ⊢; exact na.1)) (by simp at na ⊢; exact na.2), hp7, x6, y6, z6, fun r => if r = u then v else g r, hb7, ok6.mono (by rw [List.length_append, List.length_singleton]; omega), h7, fun r hr => ?_⟩
    rw [List.length_append, List.length_singleton, eu]
    by_cases c : r = u
    · subst c
      show Slot A H7 _ _ r (if r = r then v else g r)
      rw [if_pos rfl]
      exact ⟨fun _ => ⟨bad7, vL⟩, fun no => absurd (by simp) no⟩
    · show Slot A H7 _ _ r (if r = u then v else g r)
      rw [if_neg c]
      have bs := ((sl5 r hr).keepM (M := [b]) (by simp) (lm1 hb5) k6).keepM (M := [tl]) (by simp) l6 k7
      have e : ((r : Int) ∈ ([(m : Int), (n : Int)] : List Int).take pre.length ++ [(u : Int)]) ↔ (r : Int) ∈ ([(m : Int), (n : Int)] : List Int).take pre.length := by
        rw [List.mem_append, List.mem_singleton]
        exact ⟨fun z => z.elim id fun z => absurd (by omega) c, .inl⟩
      exact ⟨fun z => bs.1 (e.mp z), fun z => bs.2 fun y => z (e.mpr y)⟩
  · rintro σ H5 ⟨⟨y8, rfl⟩, K5, h5, x5, y5, z5, g, hb5, ok5, htl5, sl5⟩
    have m4 : m < 4 := by omega
    have fi : First A H5 (g 0) (g 1) (g 2) (g 3) m (g m) := first_of sl5 (by simp) (by simp; omega) m4
    obtain ⟨e, he, hb⟩ := ((sl5 m m4).1 (by simp)).1
    obtain ⟨ob, _⟩ := bad_parts hb
    have od : Odd H5 (g m) e := ⟨he, ob⟩
    clear sl5 he hb
    refine ⟨(show 4 ≤ sizeLine by decide), NewS.mk fun pw H6 nw sw kw hw => ?_⟩
    have h6 := kw _ _ h5 (by simp)
    have htl6 := kw _ _ htl5 (by simp)
    refine ⟨_, rfl, p, _, _, _, rfl, rfl, .inl (.inl h6), atI_nat (j := 0) rfl, pw, _, _, _, rfl, rfl, .inl (.inl hw), at_wd m4, ?_⟩
    refine ⟨_, rfl, _, rfl, p, _, _, _, rfl, rfl, .inl (.inl h6), atI_nat (j := 0) rfl, tl, _, _, _, rfl, rfl, .inl (.inl htl6), at_four m4, ?_⟩
    refine ⟨(show 3 ≤ sizeLine by decide), NewS.mk fun du H7 nd sd kd hdu => ?_⟩
    have kk := kw.trans kd
    refine ⟨_, rfl, tl, g 0, g 1, g 2, g 3, g m, m, rfl, kk _ _ htl5 (by simp), fi.keep kk, m4, NewS.mk fun rs H8 nr sr kr hr8 => ?_⟩
    obtain ⟨e1, f1, f2, f3⟩ := (od.keep (kk.trans kr)).tri (wd_ok m) hr8 sr
    obtain ⟨e2, _, _, _⟩ := (od.keep (kk.trans kr)).tri (wd_ok m) (kr _ _ hdu (by simp)) sd
    refine .inl ⟨rs, _, rfl, e1, f1, f2, f3, ?_⟩
    refine ⟨_, rfl, .inl ⟨du, _, rfl, e2, f1, f2, f3, ?_⟩⟩
    generalize (PyData.list [.str (wd m), e, .bool true]).shown = sh
    walk_at "rd"
    refine ifF (by simp) ?_
    exact q _ _ _ H8 fun a o ha na => (kk.trans kr) _ _ (K5 _ _ ha na) (by simp)
end
end K51
namespace K51
open PySem PySem.Spec PyProof.Rows L2 FR TL
open C8 (pss_cut pe_gc)
open StX (pe_callS2 pa_star)
theorem same_D {K : PySem.W.Frag} {A : Ads} {H : Hp} {n : Nat} {v : V} (n4 : n < 4) (h : Fit A H (n : Int) v) : DP K A v v true H := by
  have : n = 0 ∨ n = 1 ∨ n = 2 ∨ n = 3 := by omega
  rcases this with rfl | rfl | rfl | rfl
  · rcases h.f0 rfl with rfl | ⟨al, c, rfl, _⟩
    · exact .inl (.inl ⟨rfl, rfl, rfl⟩)
    · exact .inl (.inr ⟨al, rfl, rfl, rfl⟩)
  · obtain ⟨s, rfl, _⟩ := h.f1 rfl
    exact .inl (.inl ⟨rfl, rfl, by rw [strEq]; exact decide_eq_true rfl⟩)
  · obtain ⟨b, rfl⟩ := h.f2 rfl
    exact .inl (.inl ⟨rfl, rfl, by cases b <;> rfl⟩)
  · obtain ⟨s, rfl, _⟩ := h.f3 rfl
    exact .inl (.inl ⟨rfl, rfl, by rw [strEq]; exact decide_eq_true rfl⟩)
theorem any_D {K : PySem.W.Frag} {A : Ads} {H : Hp} {n : Nat} {v u : V} (ic : C8.InsC K A.C_AccessList) (hn : PySem.W.notFirst K A.C_AccessList (.type "NoneType") = true) (n4 : n < 4) (h : Fit A H (n : Int) v) (h' : Fit A H (n : Int) u) : ∃ r, DP K A v u r H := by
  have : n = 0 ∨ n = 1 ∨ n = 2 ∨ n = 3 := by omega
  rcases this with rfl | rfl | rfl | rfl
  · rcases h.f0 rfl with rfl | ⟨al, c, rfl, hc⟩ <;> rcases h'.f0 rfl with rfl | ⟨al', c', rfl, hc'⟩
    · exact ⟨true, .inl (.inl ⟨rfl, rfl, rfl⟩)⟩
    · obtain ⟨dx, _, _, _, _, _, _, _, _, x⟩ := id hc'.al
      exact ⟨false, .inr (.inr ⟨al', dx, _, rfl, rfl, x.ob, c', hc', .inr ⟨rfl, rfl⟩⟩)⟩
    · obtain ⟨dx, _, _, _, _, _, _, _, _, x⟩ := id hc.al
      exact ⟨false, .inr (.inl ⟨⟨al, dx, _, .type "NoneType", rfl, x.ob, fun _ _ => .base .non, hn, c, hc, .inr ⟨rfl, rfl⟩⟩, fun z => by cases z⟩)⟩
    · by_cases e : al = al'
      · subst e
        exact ⟨true, .inl (.inr ⟨al, rfl, rfl, rfl⟩)⟩
      · obtain ⟨dx, _, _, _, _, _, _, _, _, x⟩ := id hc.al
        obtain ⟨dx', _, _, _, _, _, _, _, _, x'⟩ := id hc'.al
        exact ⟨eqA c c', .inr (.inl ⟨⟨al, dx, _, .ref A.C_AccessList, rfl, x.ob, fun H' k => TyX.base (.ins (k _ _ x'.ob) ic.cl ic.ha ic.hn ic.htk ic.hm), by unfold PySem.W.notFirst; simp, c, hc, .inl ⟨al', c', rfl, hc', rfl⟩⟩, fun z => e (V.ref.inj z)⟩)⟩
  · obtain ⟨s, rfl, _⟩ := h.f1 rfl
    obtain ⟨s', rfl, _⟩ := h'.f1 rfl
    exact ⟨_, .inl (.inl ⟨rfl, rfl, rfl⟩)⟩
  · obtain ⟨s, rfl⟩ := h.f2 rfl
    obtain ⟨s', rfl⟩ := h'.f2 rfl
    exact ⟨_, .inl (.inl ⟨rfl, rfl, rfl⟩)⟩
  · obtain ⟨s, rfl, _⟩ := h.f3 rfl
    obtain ⟨s', rfl, _⟩ := h'.f3 rfl
    exact ⟨_, .inl (.inl ⟨rfl, rfl, rfl⟩)⟩
theorem same_P {K : PySem.W.Frag} {A : Ads} {H : Hp} {f : Nat → V} (h : ∀ n : Nat, n < 4 → Fit A H (n : Int) (f n)) : PrsB (DP K A) (four f) (four f) true H :=
  .cons (same_D (by decide) (h 0 (by decide))) (.cons (same_D (by decide) (h 1 (by decide))) (.cons (same_D (by decide) (h 2 (by decide))) (.cons (same_D (by decide) (h 3 (by decide))) .nil)))
theorem any_P {K : PySem.W.Frag} {A : Ads} {H : Hp} {f g : Nat → V} (ic : C8.InsC K A.C_AccessList) (hn : PySem.W.notFirst K A.C_AccessList (.type "NoneType") = true) (h : ∀ n : Nat, n < 4 → Fit A H (n : Int) (f n)) (h' : ∀ n : Nat, n < 4 → Fit A H (n : Int) (g n)) : ∃ r, PrsB (DP K A) (four f) (four g) r H := by
  obtain ⟨r0, d0⟩ := any_D ic hn (by decide) (h 0 (by decide)) (h' 0 (by decide))
  obtain ⟨r1, d1⟩ := any_D ic hn (by decide) (h 1 (by decide)) (h' 1 (by decide))
  obtain ⟨r2, d2⟩ := any_D ic hn (by decide) (h 2 (by decide)) (h' 2 (by decide))
  obtain ⟨r3, d3⟩ := any_D ic hn (by decide) (h 3 (by decide)) (h' 3 (by decide))
  exact ⟨_, .cons d0 (.cons d1 (.cons d2 (.cons d3 .nil)))⟩
theorem good_of {A : Ads} {H : Hp} {f : Nat → V} (h : ∀ n : Nat, n < 4 → Fit A H (n : Int) (f n)) : First A H (f 0) (f 1) (f 2) (f 3) 4 .non := .ok ⟨(h 0 (by decide)).f0 rfl, (h 1 (by decide)).f1 rfl, (h 2 (by decide)).f2 rfl, (h 3 (by decide)).f3 rfl⟩
section
variable {P : Program} {w : World} {K : PySem.W.Frag} {mg : Str → Option Value} {base : Heap} {A : Ads}
set_option pp.maxSteps 300
def R_eqs (A : Ads) : TS := fun D σ H => ∃ (b tl to_ p p' : Addr) (f g : Nat → V) (x y z : Int) (s0 s1 s7 s8 s9 : Option V), σ = [s0, s1, some (.ref b), some (.ref tl), some (.ref to_), some (.ref p), some (.ref p'), s7, s8, s9] ∧ H b = some (bagO x y z) ∧ BagOk 48 x y z ∧ H tl = some (.lst (four f)) ∧ H to_ = some (.lst (four g)) ∧
  (∀ n : Nat, n < 4 → Fit A H (n : Int) (f n)) ∧ (∀ n : Nat, n < 4 → Fit A H (n : Int) (g n)) ∧ St A H p (f 0) (f 1) (f 2) (f 3) ∧ St A H p' (g 0) (g 1) (g 2) (g 3) ∧
  ∀ t7 t8 t9 H', Keep [b, tl] H H' → D.nx [s0, s1, some (.ref b), some (.ref tl), some (.ref to_), some (.ref p), some (.ref p'), t7, t8, t9] H'
theorem blk_eqs (T : Txt w K mg A) {cdv : Value} {A_ : Around} {outer : List Env} {s_ : Shared} {H : Hp} {E : XK} (hgd : A_.guards = some []) (hr : Room 13 (A_.deeper (envOfC "law" (defScope s_law) s_.heap.objs.size A.f_law cdv))) : PSs (cxOf CX0 P w K mg base N_law "law" (defScope s_law) A.f_law cdv A_ outer s_ H E).nox (List.drop 4 (bdF (nth (defBody s_law) 1))) (R_eqs A) := by
  refine pss_b (pss_cons (ps_if (PW.pt (pw_or (pt_cmpR (op_neB monB_D (eqB_D T.me_AccessList___eq__.at_ T.me_AccessList___eq__.fn (sub_AL T) ((ok_AccessList___eq__ T).raw T.B_AccessList___eq__ .nil) pass0) (hr.mono (by decide))) (pe_call (ok_shown T) (hr.mono (by decide)) (by rfl) T.g_shown T.F_shown.kp T.B_shown .nil pass0 (pa_cons (pv 5) pa_nil)) (pv 3) (nomark _)) (pw_or (pt_cmpR (op_neB monB_D (eqB_D T.me_AccessList___eq__.at_ T.me_AccessList___eq__.fn (sub_AL T) ((ok_AccessList___eq__ T).raw T.B_AccessList___eq__ .nil) pass0) (hr.mono (by decide))) (pe_call (ok_shown T) (hr.mono (by decide)) (by rfl) T.g_shown T.F_shown.kp T.B_shown .nil pass0 (pa_cons (pv 6) pa_nil)) (pv 4) (nomark _)) (pw_or1 (pt_not (pt_val (pe_callB call_isi (by rfl) T.b_isinstance (by decide +kernel) (pa_cons (pe_prop (pv 5) T.cl_Start T.pr_Start_passes (ok_Start_passes T) (hr.mono (by decide)) T.B_Start_passes .nil pass0 rfl) (pa_cons (pe_bltn (v := .ty "bool") rfl T.b_bool (by decide +kernel) rfl) pa_nil))))))))) (pss_one (ps_ret pe_bl)) pss_nil)
  (pss_cons (ps_if (PW.pt (pw_or (pt_cmpR op_ne (pe_cmpR (op_cmpI (fun _ _ => rfl) T.me_Start___eq__.at_ T.me_Start___eq__.fn ((ok_Start___eq__ T).raw T.B_Start___eq__ .nil) (hr.mono (by decide)) pass0) (pv 5) (pv 6) (nomark _)) (pe_cmpR (op_eqB (rcB_list monB_D (eqB_D T.me_AccessList___eq__.at_ T.me_AccessList___eq__.fn (sub_AL T) ((ok_AccessList___eq__ T).raw T.B_AccessList___eq__ .nil) pass0)) (hr.mono (by decide))) (pv 3) (pv 4) (nomark _)) (nomark _)) (pw_or (pt_cmpR (op_cmpX (fun _ _ => rfl) T.me_Start___eq__.at_ T.me_Start___eq__.fn ((ok_Start___eq__ T).raw T.B_Start___eq__ .nil) (hr.mono (by decide)) pass0) (pv 5) (pv 3) (nomark _)) (pw_or1 (pt_cmpR (op_neI T.in_Start.hm T.ne_Start T.me_Start___eq__.at_ T.me_Start___eq__.fn ((ok_Start___eq__ T).raw T.B_Start___eq__ .nil) (hr.mono (by decide)) pass0) (pe_callS (ok_opened T) (hr.mono (by decide)) (by rfl) T.g_opened T.F_opened.kp T.B_opened (fun σ => passAt tk0 σ) (pa_cons (pv 3) (pa_cons pe_int pa_nil))) (pv 5) (nomark _)))))) (pss_one (ps_ret pe_bl)) pss_nil)
  (pss_cons (ps_if (pt_cmpR (op_neD hr.units) (pe_call (ok_shown T) (hr.mono (by decide)) (by rfl) T.g_shown T.F_shown.kp T.B_shown .nil pass0 (pa_cons (pe_makeK0 T.mk_Start (ok_Start___init__ T) (hr.mono (by decide)) (by rfl) T.gC_Start (kbS_p T).choose_spec px0 (pk_cons (pe_ix ix_list (pv 3) pe_int (fun _ _ => rfl)) pk_nil)) pa_nil)) (pe_lstS (pa_cons pe_non (pa_cons pe_str (pa_cons (pe_ix ix_list (pv 3) pe_int (fun _ _ => rfl)) (pa_cons pe_str pa_nil))))) (nomark _)) (pss_one (ps_ret pe_bl)) pss_nil)
  (blk_odds T hgd hr)))) ?_
  rintro D σ H ⟨b, tl, to_, p, p', f, g, x, y, z, s0, s1, s7, s8, s9, rfl, hb, ok, htl, hto, gf, gg, hs, hs', q⟩
  have W : Ow H [] H [] := Ow.start0
  walk_at "rd"
  refine ⟨p, f 0, f 1, f 2, f 3, rfl, hs, NewS.mk fun p1 H1 n1 sp1 k1 h1 => ?_⟩
  refine ⟨_, rfl, true, ⟨p1, tl, _, _, rfl, rfl, h1, k1 _ _ htl (by simp), .inl ((same_P gf).mon monB_D k1.same)⟩, fun H2 k2 => ?_⟩
  refine ⟨_, rfl, ?_⟩
  refine ifF rfl ?_
  have k12 := k1.trans k2
  clear h1 n1 sp1
  walk_at "rd"
  refine ⟨p', g 0, g 1, g 2, g 3, rfl, hs'.keep k12, NewS.mk fun p3 H3 n3 sp3 k3 h3 => ?_⟩
  have k13 := k12.trans k3
  refine ⟨_, rfl, true, ⟨p3, to_, _, _, rfl, rfl, h3, k13 _ _ hto (by simp), .inl ((same_P gg).mon monB_D k13.same)⟩, fun H4 k4 => ?_⟩
  refine ⟨_, rfl, ?_⟩
  refine ifF rfl ?_
  have K4 := k13.trans k4
  clear h3 n3 sp3 k1 k2 k3 k4 k12 k13
  obtain ⟨bb, e2⟩ := (gf 2 (by decide)).f2 rfl
  obtain ⟨dx, hp⟩ := hs
  obtain ⟨dx', hp'⟩ := hs'
  have hp4 := K4 _ _ hp (by simp)
  have hp4' := K4 _ _ hp' (by simp)
  refine ⟨_, rfl, p, dx, _, rfl, hp4, _, _, _, _, _, rfl, ⟨dx, hp4⟩, ?_⟩
  refine ⟨_, _, _, _, true, rfl, .ty _, TyX.base (show TyOf K H4 (f 2) (.type "bool") by rw [e2]; exact .bl _), kit_ty (by decide +kernel), ?_⟩
  refine ⟨_, rfl, ?_⟩
  refine ifF rfl ?_
  obtain ⟨r, pr⟩ := any_P T.in_AccessList T.nf_AccessList_NoneType gf gg
  refine ⟨_, rfl, _, rfl, p, dx, _, p', dx', _, rfl, rfl, hp4, hp4', ?_⟩
  refine ⟨p, .ref p', f 0, f 1, f 2, f 3, rfl, ⟨dx, hp4⟩, .inl ⟨p', g 0, g 1, g 2, g 3, r, rfl, ⟨dx', hp4'⟩, pr.mon monB_D K4.same, fun H5 k5 => ?_⟩⟩
  have K5 := K4.trans k5
  refine ⟨_, rfl, _, rfl, r, ⟨tl, to_, _, _, rfl, rfl, K5 _ _ htl (by simp), K5 _ _ hto (by simp), .inl (pr.mon monB_D K5.same)⟩, fun H6 k6 => ?_⟩
  have K6 := K5.trans k6
  refine ⟨rfl, _, rfl, ?_⟩
  refine ifF (by simp) ?_
  have hp6 := K6 _ _ hp (by simp)
  have htl6 := K6 _ _ htl (by simp)
  refine ⟨_, rfl, _, rfl, p, dx, _, .type "list", rfl, hp6, .base (.lst htl6), T.nf_Start_list, p, .ref tl, f 0, f 1, f 2, f 3, rfl, ⟨dx, hp6⟩, .inr ⟨tl, _, rfl, htl6, ?_⟩⟩
  refine ⟨_, rfl, ?_⟩
  refine ifF rfl ?_
  have gf6 : ∀ n : Nat, n < 4 → Fit A H6 (n : Int) (f n) := fun n hn => (gf n hn).keep K6
  walk_at "rd"
  refine ⟨tl, f 0, f 1, f 2, f 3, .non, 1, 4, rfl, htl6, good_of gf6, ⟨fun e => absurd e (by decide), fun e => absurd e (by decide), fun e => absurd e (by decide), fun e => absurd e (by decide)⟩, fun _ p7 H7 n7 k7 hs7 => ?_⟩
  have K7 := K6.trans k7
  obtain ⟨dy, hp7⟩ := hs7
  have hq7 := K7 _ _ hp (by simp)
  refine ⟨_, rfl, p7, dy, _, p, dx, _, rfl, rfl, hp7, hq7, p7, .ref p, f 0, f 1, f 2, f 3, rfl, ⟨dy, hp7⟩, .inl ⟨p, f 0, f 1, f 2, f 3, true, rfl, ⟨dx, hq7⟩, (same_P gf).mon monB_D K7.same, fun H8 k8 => ⟨true, rfl, ?_⟩⟩⟩
  refine ⟨_, rfl, ?_⟩
  refine ifF rfl ?_
  have K8 := K7.trans k8
  have htl8 := K8 _ _ htl (by simp)
  clear gf6 hp4 hp4' hp6 htl6 hp7 hq7 K7 k8 k7 K6 k6 K5 k5 K4 pr n7
  have at2 : atI (four f) 2 = some (f 2) := atI_nat (j := 2) rfl
  have rootOk : Nm (Str.ofString "root") := ⟨by decide +kernel, by decide +kernel, by decide +kernel⟩
  refine ⟨_, rfl, tl, _, _, _, rfl, rfl, .inl (.inl htl8), at2, ?_⟩
  refine ⟨rfl, rfl, fun p9 dx9 n9 nd9 ne9 => ?_⟩
  have k2 : Keep [] H8 (upd (upd H8 dx9 (.own p9)) p9 (.ins A.C_Start dx9 [])) := opn_ne (A := A) (o := .lst []) n9 nd9
  refine ⟨p9, dx9, .non, .str (Str.ofString "root"), f 2, .str (Str.ofString "000"), 4, .non, rfl, upd_same, .ok ⟨.inl rfl, ⟨_, rfl, rootOk⟩, ⟨bb, e2⟩, ⟨_, rfl, by decide +kernel, by decide +kernel, by decide +kernel⟩⟩, ⟨fun e => absurd e (by decide), fun e => absurd e (by decide), fun e => absurd e (by decide), fun e => absurd e (by decide)⟩, fun _ H9 k9' h9 => ⟨rfl, ?_⟩⟩
  have k9 : Keep [] H8 H9 := keep_of_new Keep.refl n9 nd9 k9'
  have hs9 : St A H9 p9 .non (.str (Str.ofString "root")) (f 2) (.str (Str.ofString "000")) := ⟨dx9, h9⟩
  refine ⟨p9, _, _, _, _, rfl, hs9, NewS.mk fun p10 H10 n10 sp10 k10 h10 => ?_⟩
  have k810 := k9.trans k10
  refine ⟨_, rfl, tl, _, _, _, rfl, rfl, .inl (.inl (k810 _ _ htl8 (by simp))), at2, ?_⟩
  refine ⟨(show 4 ≤ sizeLine by decide), NewS.mk fun p11 H11 n11 sp11 k11 h11 => ?_⟩
  rw [e2] at h10 h11
  have dp : ∀ {u : Addr}, H11 u = some (.lst [.non, .str (Str.ofString "root"), .bl bb, .str (Str.ofString "000")]) → Dp K H11 (.ref u) (.list [.none, .str (Str.ofString "root"), .bool bb, .str (Str.ofString "000")]) := fun h => .lst (.inl (.inl h)) (.cons .non (.cons (.str _) (.cons (.bl _) (.cons (.str _) .nil))))
  refine ⟨_, _, dp (k11 _ _ h10 (by simp)), dp h11, by cases bb <;> decide +kernel, by cases bb <;> decide +kernel, ?_⟩
  refine ⟨_, rfl, ?_⟩
  refine ifF (by cases bb <;> decide +kernel) ?_
  have K11 := (K8.trans k810).trans k11
  exact ⟨b, tl, f, x, y, z, _, _, _, _, _, _, _, _, rfl, K11 _ _ hb (by simp), ok.mono (by decide), K11 _ _ htl (by simp), fun n hn => (gf n hn).keep K11, fun t7 t8 t9 H' k' => q _ _ _ H' fun a o ha na => k' _ _ (K11 _ _ ha (by simp)) na⟩
end
end K51
namespace K51
open PySem PySem.Spec PyProof.Rows L2 FR TL
open C8 (pss_cut pe_gc)
open StX (pe_callS2 pa_star)
theorem cnt_in (L : Int) : (0 : Int) ≤ (if (if L < 6 then L else 6) > 2 then (if L < 6 then L else 6) else 2) ∧ (if (if L < 6 then L else 6) > 2 then (if L < 6 then L else 6) else 2) ≤ 6 := by
  split <;> split <;> constructor <;> omega
theorem keep_sq {K : PySem.W.Frag} {H H' : Hp} {a : Addr} {xs : List V} (h : SqL K H a xs) (k : Keep [] H H') : SqL K H' a xs := by
  rcases h with (h | ⟨o, h⟩) | h
  · exact .inl (.inl (k _ _ h (by simp)))
  · exact .inl (.inr ⟨o, k _ _ h (by simp)⟩)
  · exact .inr h
/-- the start that is made of nothing -/
def f0 : Nat → V := fun n => [V.non, .str (Str.ofString "root"), .bl false, .str (Str.ofString "000")].getD n .non
theorem f0_fit {A : Ads} {H : Hp} (n : Nat) (h : n < 4) : Fit A H (n : Int) (f0 n) := by
  have : n = 0 ∨ n = 1 ∨ n = 2 ∨ n = 3 := by omega
  rcases this with rfl | rfl | rfl | rfl
  · exact ⟨fun _ => .inl rfl, fun z => absurd z (by decide), fun z => absurd z (by decide), fun z => absurd z (by decide)⟩
  · exact ⟨fun z => absurd z (by decide), fun _ => ⟨_, rfl, ⟨by decide +kernel, by decide +kernel, by decide +kernel⟩⟩, fun z => absurd z (by decide), fun z => absurd z (by decide)⟩
  · exact ⟨fun z => absurd z (by decide), fun z => absurd z (by decide), fun _ => ⟨_, rfl⟩, fun z => absurd z (by decide)⟩
  · exact ⟨fun z => absurd z (by decide), fun z => absurd z (by decide), fun z => absurd z (by decide), fun _ => ⟨_, rfl, by decide +kernel, by decide +kernel, by decide +kernel⟩⟩
/-- a start of nothing, however it is asked for -/
theorem mk_0 {A : Ads} {H : Hp} {E : XK} {p dx : Addr} {Q : VK} (n : H p = none) (nd : H dx = none) (q : ∀ H', Keep [] H H' → St A H' p (f0 0) (f0 1) (f0 2) (f0 3) → Q .non H') : spSInit A [.ref p, .non, .str (Str.ofString "root"), .bl false, .str (Str.ofString "000")] (upd (upd H dx (.own p)) p (.ins A.C_Start dx [])) Q E := by
  have k2 : Keep [] H (upd (upd H dx (.own p)) p (.ins A.C_Start dx [])) := opn_ne (A := A) (o := .lst []) n nd
  refine ⟨p, dx, f0 0, f0 1, f0 2, f0 3, 4, .non, rfl, upd_same, good_of f0_fit, ⟨fun e => absurd e (by decide), fun e => absurd e (by decide), fun e => absurd e (by decide), fun e => absurd e (by decide)⟩, fun _ H9 k9' h9 => ?_⟩
  exact q H9 (keep_of_new Keep.refl n nd k9') ⟨dx, h9⟩
theorem keepM_upd {A : Ads} {H : Hp} {D : Addr} {xs ys : List V} {n : Int} {v : V} (h : Fit A H n v) (hD : H D = some (.lst xs)) : Fit A (upd H D (.lst ys)) n v := h.keepM (L := [D]) (fun a ha => by rw [List.mem_singleton.mp ha]; exact ⟨_, hD⟩) keep_upd
theorem fit_snoc {A : Ads} {H : Hp} {D : Addr} {vs xs ys : List V} {v z : V} {j u : Nat} (hl : vs.length = j) (hf : ∀ (u : Nat) z, vs[u]? = some z → Fit A H (u : Int) z) (fit : Fit A H (j : Int) v) (hD : H D = some (.lst xs)) (hu : (vs ++ [v])[u]? = some z) : Fit A (upd H D (.lst ys)) (u : Int) z := by
  by_cases c : u < vs.length
  · rw [List.getElem?_append_left c] at hu
    exact keepM_upd (hf u z hu) hD
  · rw [List.getElem?_append_right (by omega)] at hu
    have e : u - vs.length = 0 := by
      have := (List.getElem?_eq_some_iff.mp hu).1
      simp at this
      omega
    rw [e] at hu
    cases hu
    have : u = j := by omega
    subst this
    exact keepM_upd fit hD
theorem four_of {A : Ads} {H : Hp} {vs : List V} (hl : vs.length = 4) (hf : ∀ (u : Nat) z, vs[u]? = some z → Fit A H (u : Int) z) : ∃ f : Nat → V, vs = four f ∧ ∀ n : Nat, n < 4 → Fit A H (n : Int) (f n) := by
  match vs, hl with
  | [a, b, c, d], _ =>
    refine ⟨fun n => [a, b, c, d].getD n .non, rfl, fun n hn => ?_⟩
    have : n = 0 ∨ n = 1 ∨ n = 2 ∨ n = 3 := by omega
    rcases this with rfl | rfl | rfl | rfl
    · exact hf 0 a rfl
    · exact hf 1 b rfl
    · exact hf 2 c rfl
    · exact hf 3 d rfl
section
variable {P : Program} {w : World} {K : PySem.W.Frag} {mg : Str → Option Value} {base : Heap} {A : Ads}
set_option pp.maxSteps 300
def spLaw (K : PySem.W.Frag) : Sp := fun vs H Q _ => ∃ (a : Addr) (ns : List Int), vs = [.ref a] ∧ SqL K H a (ns.map V.int) ∧ ns.length ≤ 63 ∧ ∀ H', Q (.bl true) H'
theorem ok_law (T : Txt w K mg A) : FnG P w K mg base CX0 14 A.f_law (spLaw K) := by
  refine okG0 T.F_law sc_law T.B_law (fun vs H Q E h => ?_) (fun cdv A_ outer s H vs Q E hgd hr h => ?_)
  · obtain ⟨a, ns, rfl, _⟩ := h
    rfl
  · obtain ⟨sa, ns, rfl, hS, hlen, q⟩ := h
    refine ⟨_, (pss_cons (ps_if (PW.pt (pw_or (pt_cmpR (op_neD hr.units) (pe_call (ok_shown T) (hr.mono (by decide)) (by rfl) T.g_shown T.F_shown.kp T.B_shown .nil pass0 (pa_cons (pe_make0 T.mk_Start (ok_Start___init__ T) (hr.mono (by decide)) (by rfl) T.gC_Start (bd_Start___init___0 T).choose_spec.2 (bd_Start___init___0 T).choose_spec.1 px0) pa_nil)) (pe_lstS (pa_cons pe_non (pa_cons pe_str (pa_cons pe_bl (pa_cons pe_str pa_nil))))) (nomark _)) (pw_or1 (pt_cmpR (op_neI T.in_Start.hm T.ne_Start T.me_Start___eq__.at_ T.me_Start___eq__.fn ((ok_Start___eq__ T).raw T.B_Start___eq__ .nil) (hr.mono (by decide)) pass0) (pe_makeK0 T.mk_Start (ok_Start___init__ T) (hr.mono (by decide)) (by rfl) T.gC_Start (kbS_u T).choose_spec px0 (pk_cons pe_str pk_nil)) (pe_makeK0 T.mk_Start (ok_Start___init__ T) (hr.mono (by decide)) (by rfl) T.gC_Start (kbS_gp T).choose_spec px0 (pk_cons pe_str (pk_cons pe_bl pk_nil))) (nomark _))))) (pss_one (ps_ret pe_bl)) pss_nil)
  (pss_cons (ps_for PassesOwn.never rfl (pi_range1 (by rfl) T.b_range (pa_cons (pe_callB (call_max2 rfl) (by rfl) T.b_max (by decide +kernel) (pa_cons pe_int (pa_cons (pe_callB (call_min2 rfl) (by rfl) T.b_min (by decide +kernel) (pa_cons pe_int (pa_cons (pe_callB call_len_seq (by rfl) T.b_len PySem.boot_len (pa_cons (pv 0) pa_nil)) pa_nil))) pa_nil))) pa_nil)) (pg_name (i := 1) sc_law.nd rfl (.inl rfl)) (pss_cons (ps_set (i := 2) sc_law.nd rfl (.inr rfl) (pe_call (ok_bag T) (hr.mono (by decide)) (by rfl) T.g_bag T.F_bag.kp T.B_bag .nil pass0 (pa_cons (pe_call (ok_cell T) (hr.mono (by decide)) (by rfl) T.g_cell T.F_cell.kp T.B_cell .nil pass0 (pa_cons (pv 0) (pa_cons (pv 1) pa_nil))) pa_nil)))
  (pss_cons (ps_set (i := 3) sc_law.nd rfl (.inr rfl) (pe_lc (own := [("_law_at", 8)]) (g := gName 8) rfl sc_law.nd (pi_range1 (by rfl) T.b_range (pa_cons pe_int pa_nil)) (blkOk_by (own := [("_law_at", 8)]) (N := N_law) (sc := defScope s_law) (by decide +kernel)) (fun _ _ _ _ _ => pg_name (i := 8) sc_law.nd rfl (Or.inl rfl)) (fun _ _ _ _ _ => pts_nil) (fun _ _ _ _ _ => (pe_call (ok_part T) (hr.mono (by decide)) (by rfl) T.g_part T.F_part.kp T.B_part .nil pass0 (pa_cons (pv 2) (pa_cons (pv 8) pa_nil))))))
  (pss_cons (ps_setLc (i := 4) (own := [("_law_at", 8)]) (g := gName 8) rfl sc_law.nd rfl rfl (sw_true rfl rfl rfl (by decide +kernel)) (pi_range1 (by rfl) T.b_range (pa_cons pe_int pa_nil)) (blkOk_by (own := [("_law_at", 8)]) (N := N_law) (sc := defScope s_law) (by decide +kernel)) (fun _ _ _ _ _ => pg_name (i := 8) sc_law.nd rfl (Or.inl rfl)) (fun _ _ _ _ _ => pts_nil) (fun _ _ _ _ _ => (pe_ix (ix_listK (K := K) rfl) (pe_lstS (pa_cons (pe_ix (ix_listK (K := K) rfl) (pv 3) (pv 8) (fun _ _ => rfl)) (pa_cons (pe_call (ok_part T) (hr.mono (by decide)) (by rfl) T.g_part T.F_part.kp T.B_part .nil pass0 (pa_cons (pv 2) (pa_cons (pv 8) pa_nil))) pa_nil))) (pe_call (ok_take T) (hr.mono (by decide)) (by rfl) T.g_take T.F_take.kp T.B_take .nil pass0 (pa_cons (pv 2) (pa_cons pe_int pa_nil))) (fun _ _ => rfl))))
  (pss_cons (ps_par (i := 5) (j := 6) (by rfl) sc_law.nd rfl rfl (by decide) rfl rfl (pa_cons (pe_callS (ok_opened T) (hr.mono (by decide)) (by rfl) T.g_opened T.F_opened.kp T.B_opened (fun σ => passAt tk0 σ) (pa_cons (pv 3) (pa_cons (pe_call (ok_take T) (hr.mono (by decide)) (by rfl) T.g_take T.F_take.kp T.B_take .nil pass0 (pa_cons (pv 2) (pa_cons pe_int pa_nil))) pa_nil))) (pa_cons (pe_callS (ok_opened T) (hr.mono (by decide)) (by rfl) T.g_opened T.F_opened.kp T.B_opened (fun σ => passAt tk0 σ) (pa_cons (pv 4) (pa_cons (pe_call (ok_take T) (hr.mono (by decide)) (by rfl) T.g_take T.F_take.kp T.B_take .nil pass0 (pa_cons (pv 2) (pa_cons pe_int pa_nil))) pa_nil))) pa_nil)) (by rfl))
  (blk_eqs T hgd hr))))))
  (pss_one (ps_ret pe_bl)))), ?_⟩
    refine fun p1 dx1 n1 nd1 ne1 => mk_0 n1 nd1 fun H1 k1 s1 => ⟨rfl, ?_⟩
    refine ⟨p1, _, _, _, _, rfl, s1, NewS.mk fun l1 H2 nl1 sl1 k2 h2 => ?_⟩
    refine ⟨(show 4 ≤ sizeLine by decide), NewS.mk fun l2 H3 nl2 sl2 k3 h3 => ?_⟩
    have dp : ∀ {u : Addr}, H3 u = some (.lst [.non, .str (Str.ofString "root"), .bl false, .str (Str.ofString "000")]) → Dp K H3 (.ref u) (.list [.none, .str (Str.ofString "root"), .bool false, .str (Str.ofString "000")]) := fun h => .lst (.inl (.inl h)) (.cons .non (.cons (.str _) (.cons (.bl _) (.cons (.str _) .nil))))
    refine ⟨_, _, dp (k3 _ _ h2 (by simp)), dp h3, by decide +kernel, by decide +kernel, ?_⟩
    refine ⟨_, rfl, ?_⟩
    refine ifF (by decide +kernel) ?_
    have K3 := (k1.trans k2).trans k3
    clear dp h3 h2 k1 k2 k3 s1 nl1 nl2
    refine ⟨rfl, rfl, fun p2 dx2 n2 nd2 ne2 => mk_0 n2 nd2 fun H4 k4 s4 => ⟨rfl, ?_⟩⟩
    refine ⟨rfl, rfl, fun p3 dx3 n3 nd3 ne3 => mk_0 n3 nd3 fun H5 k5 s5 => ⟨rfl, ?_⟩⟩
    have s4' := s4.keep k5
    obtain ⟨da, ha⟩ := s4'
    obtain ⟨db, hb⟩ := s5
    refine ⟨p2, da, _, p3, db, _, rfl, rfl, ha, hb, p2, .ref p3, f0 0, f0 1, f0 2, f0 3, rfl, ⟨da, ha⟩, .inl ⟨p3, f0 0, f0 1, f0 2, f0 3, true, rfl, ⟨db, hb⟩, same_P f0_fit, fun H6 k6 => ⟨true, rfl, ?_⟩⟩⟩
    refine ⟨_, rfl, ?_⟩
    refine ifF rfl ?_
    have K6 := ((K3.trans k4).trans k5).trans k6
    clear K3 k4 s4 k5 k6 ha hb
    refine ⟨_, rfl, sa, _, rfl, .inl (keep_sq hS K6), _, _, rfl, _, _, rfl, _, rfl, ?_⟩
    obtain ⟨ca, cb⟩ := cnt_in ((ns.map V.int).length : Int)
    refine ⟨Int.le_trans (by decide) ca, Int.lt_of_le_of_lt cb (by decide), ?_⟩
    generalize (if (if ((ns.map V.int).length : Int) < 6 then ((ns.map V.int).length : Int) else 6) > 2 then (if ((ns.map V.int).length : Int) < 6 then ((ns.map V.int).length : Int) else 6) else 2) = cnt at ca cb ⊢
    refine for_rg (fun i σ H' => (∃ y1 y2 y3 y4 y5 y6 y7 y8 y9, σ = [some (.ref sa), y1, y2, y3, y4, y5, y6, y7, y8, y9]) ∧ Keep [] H H') ⟨⟨none, none, none, none, none, none, none, none, none, rfl⟩, K6⟩ ?_ ?_
    · clear K6
      rintro i σ H1 hi ⟨⟨y1, y2, y3, y4, y5, y6, y7, y8, y9, rfl⟩, K1⟩
      have hi5 : i < 6 := by
        have hi : i < cnt.toNat := hi
        omega
      refine ⟨_, rfl, _, rfl, ?_⟩
      refine ⟨sa, ns, _, rfl, keep_sq hS K1, by omega, by omega, fun n => ?_⟩
      refine ⟨n, rfl, fun bx by_ bz bok => NewO.mk fun b H2 n2 k2 h2 => ?_⟩
      have K2 := K1.trans k2
      have fb : H b = none := K1.free n2
      clear K1 k2 n2
      walk_at "rd"
      intro D1 hD1
      refine lc_rg (fun i H' => ∃ (vs : List V) (x y z : Int), vs.length = i ∧ (∀ (j : Nat) v, vs[j]? = some v → Fit A H' (j : Int) v) ∧ BagOk (3 * i) x y z ∧ Ow H2 [b] H' [(D1, .lst vs), (b, bagO x y z)]) ?_ ?_ ?_
      · exact ⟨[], _, _, _, rfl, (fun j v h => by simp at h), bok, (Ow.start1 h2).new hD1⟩
      · rintro j H3 hj ⟨vs, x3, y3', z3, hl, hf, ok3, W3⟩
        have j4 : j < 4 := hj
        walk_at "rd"
        refine ⟨b, 3 * j, x3, y3', z3, 0 + (j : Int), rfl, W3.get 1 rfl, ok3, by omega, by omega, by omega, fun v x4 y4 z4 H4 ok4 k4 hb4 fit => ?_⟩
        have W4 := W3.any1 1 rfl k4 hb4
        have hD4 : H4 D1 = some (.lst vs) := W4.get 0 rfl
        rw [Int.zero_add] at fit
        refine ⟨vs, hD4, size_ok (by omega), vs ++ [v], x4, y4, z4, by rw [List.length_append, hl]; rfl, fun u z hu => ?_, ok4.mono (by omega), W4.set 0 rfl⟩
        exact fit_snoc hl (fun u z hu => (hf u z hu).keepM (lm1 (W3.get 1 rfl)) k4) fit hD4 hu
      · rintro H3 ⟨vs, x3, y3', z3, hl, hf, ok3, W3⟩
        obtain ⟨f, rfl, ff⟩ := four_of hl hf
        clear hl hf
        walk_at "rd"
        intro D2 hD2
        refine lc_rg (fun i H' => ∃ (ws : List V) (x y z : Int), ws.length = i ∧ (∀ (j : Nat) v, ws[j]? = some v → Fit A H' (j : Int) v) ∧ (∀ n : Nat, n < 4 → Fit A H' (n : Int) (f n)) ∧ BagOk (12 + 4 * i) x y z ∧ Ow H2 [b] H' [(D2, .lst ws), (D1, .lst (four f)), (b, bagO x y z)]) ?_ ?_ ?_
        · exact ⟨[], _, _, _, rfl, (fun j v h => by simp at h), fun n hn => (ff n hn).keep (keep_new hD2), ok3.mono (by omega), W3.new hD2⟩
        · rintro j H5 hj ⟨ws, x5, y5', z5, hl, hf, ff5, ok5, W5⟩
          have j4 : j < 4 := hj
          refine ⟨rfl, _, rfl, _, rfl, D1, _, _, _, rfl, rfl, .inl (.inl (W5.get 1 rfl)), (show atI (four f) (0 + (j : Int)) = some (f j) by rw [Int.zero_add]; exact at_four j4), ?_⟩
          refine ⟨_, rfl, _, rfl, b, 12 + 4 * j, x5, y5', z5, 0 + (j : Int), rfl, W5.get 2 rfl, ok5, by omega, by omega, by omega, fun v x6 y6 z6 H6 ok6 k6 hb6 fit => ?_⟩
          have W6 := W5.any1 2 rfl k6 hb6
          have lb5 := lm1 (W5.get 2 rfl)
          refine ⟨(show 2 ≤ sizeLine by decide), NewS.mk fun l H7 nl sl kl hl7 => ?_⟩
          have W7 := W6.call0 kl
          have hb7 := W7.get 2 rfl
          refine ⟨_, rfl, b, _, _, x6, y6, z6, rfl, hb7, ok6, by omega, by decide, by decide, fun d x8 y8 z8 H8 d0 d1 ok8 k8 hb8 => ?_⟩
          have W8 := W7.any1 2 rfl k8 hb8
          have nlb : l ≠ b := fun e => by rw [e, W6.get 2 rfl] at nl; cases nl
          have hl8 := k8 _ _ hl7 (by simpa using nlb)
          obtain ⟨u, hu, hm⟩ := lst_at hl8 rfl d0 d1
          refine ⟨l, _, _, _, rfl, rfl, .inl (.inl hl8), hu, ?_⟩
          have up : ∀ {n : Int} {v : V}, Fit A H5 n v → Fit A H8 n v := fun h => ((h.keepM lb5 k6).keep kl).keepM (lm1 hb7) k8
          have hD8 : H8 D2 = some (.lst ws) := W8.get 0 rfl
          have fu : Fit A H8 (j : Int) u := by
            rw [Int.zero_add] at fit
            simp only [List.mem_cons, List.not_mem_nil, or_false] at hm
            rcases hm with rfl | rfl
            · exact up (ff5 j j4)
            · exact (fit.keep kl).keepM (lm1 hb7) k8
          refine ⟨ws, hD8, size_ok (by omega), ws ++ [u], x8, y8, z8, by rw [List.length_append, hl]; rfl, fun r z hr => fit_snoc hl (fun r z hr => up (hf r z hr)) fu hD8 hr, fun n hn => keepM_upd (up (ff5 n hn)) hD8, ok8.mono (by omega), W8.set 0 rfl⟩
        · rintro H5 ⟨ws, x5, y5', z5, hl, hf, ff5, ok5, W5⟩
          obtain ⟨g, rfl, gg⟩ := four_of hl hf
          clear hl hf
          walk_at "rd"
          refine ⟨b, _, _, x5, y5', z5, rfl, W5.get 2 rfl, ok5, by omega, by decide, by decide, fun d x6 y6 z6 H6 d0 d1 ok6 k6 hb6 => ?_⟩
          have W6 := W5.any1 2 rfl k6 hb6
          have lb5 := lm1 (W5.get 2 rfl)
          have ff6 : ∀ n : Nat, n < 4 → Fit A H6 (n : Int) (f n) := fun n hn => (ff5 n hn).keepM lb5 k6
          have gg6 : ∀ n : Nat, n < 4 → Fit A H6 (n : Int) (g n) := fun n hn => (gg n hn).keepM lb5 k6
          refine ⟨D1, f 0, f 1, f 2, f 3, .non, d, 4, rfl, W6.get 1 rfl, good_of ff6, ⟨fun e => absurd e (by decide), fun e => absurd e (by decide), fun e => absurd e (by decide), fun e => absurd e (by decide)⟩, fun _ p7 H7 n7 k7 hs7 => ?_⟩
          have W7 := W6.call0 k7
          have hb7 := W7.get 2 rfl
          refine ⟨_, rfl, _, rfl, b, _, _, x6, y6, z6, rfl, hb7, ok6, by omega, by decide, by decide, fun e x8 y8 z8 H8 e0 e1 ok8 k8 hb8 => ?_⟩
          have W8 := W7.any1 2 rfl k8 hb8
          have ff8 : ∀ n : Nat, n < 4 → Fit A H8 (n : Int) (f n) := fun n hn => ((ff6 n hn).keep k7).keepM (lm1 hb7) k8
          have gg8 : ∀ n : Nat, n < 4 → Fit A H8 (n : Int) (g n) := fun n hn => ((gg6 n hn).keep k7).keepM (lm1 hb7) k8
          have hs8 : St A H8 p7 (f 0) (f 1) (f 2) (f 3) := by
            obtain ⟨dx, h⟩ := hs7
            exact ⟨dx, k8 _ _ h (by simpa using ne_of h hb7 (fun z => by cases z))⟩
          refine ⟨D2, g 0, g 1, g 2, g 3, .non, e, 4, rfl, W8.get 0 rfl, good_of gg8, ⟨fun e => absurd e (by decide), fun e => absurd e (by decide), fun e => absurd e (by decide), fun e => absurd e (by decide)⟩, fun _ p9 H9 n9 k9 hs9 => ?_⟩
          have W9 := W8.call0 k9
          refine ⟨_, _, rfl, ?_⟩
          have fD1 : H D1 = none := K2.free hD1
          refine ⟨b, D1, D2, p7, p9, f, g, x8, y8, z8, _, _, _, _, _, rfl, W9.get 2 rfl, ok8.mono (by omega), W9.get 1 rfl, W9.get 0 rfl, fun n hn => (ff8 n hn).keep k9, fun n hn => (gg8 n hn).keep k9, hs8.keep k9, hs9, fun t7 t8 t9 H' k' => ⟨⟨_, _, _, _, _, _, _, _, _, rfl⟩, ?_⟩⟩
          exact Keep.fresh (Keep.fresh K2 W9.keep (by simpa using fb)) k' (by simp [fb, fD1])
    · rintro σ H1 ⟨⟨y1, y2, y3, y4, y5, y6, y7, y8, y9, rfl⟩, K1⟩
      exact q H1
end
end K51
namespace K51
open PySem PySem.Spec PyProof.Rows L2 FR TL
theorem all_mk {P : Program} {w : World} {K : PySem.W.Frag} {h : Heap} {mg : Str → Option Value} {fa : Addr} (X : K.In h) (G : h.Ns mainGlobals mg) (hfa : mg "law" = some (.ref fa))
    {O0 : Addr} {cdo0 : ClassData}
    {O1 : Addr} {cdo1 : ClassData}
    {O2 : Addr} {cdo2 : ClassData}
    {f0 : Addr} {od0 an0 : Option Addr} {sl0 : Array (Option Value)} {oc0 kV0 dc0 pm0 cd0 ct0 : Value}
    {f1 : Addr} {od1 an1 : Option Addr} {sl1 : Array (Option Value)} {oc1 kV1 dc1 pm1 cd1 ct1 : Value}
    {f2 : Addr} {od2 an2 : Option Addr} {sl2 : Array (Option Value)} {oc2 kV2 dc2 pm2 cd2 ct2 : Value}
    {f3 : Addr} {od3 an3 : Option Addr} {sl3 : Array (Option Value)} {oc3 kV3 dc3 pm3 cd3 ct3 : Value}
    {f4 : Addr} {od4 an4 : Option Addr} {sl4 : Array (Option Value)} {oc4 kV4 dc4 pm4 cd4 ct4 : Value}
    {f5 : Addr} {od5 an5 : Option Addr} {sl5 : Array (Option Value)} {oc5 kV5 dc5 pm5 cd5 ct5 : Value}
    {f6 : Addr} {od6 an6 : Option Addr} {sl6 : Array (Option Value)} {oc6 kV6 dc6 pm6 cd6 ct6 : Value}
    {f7 : Addr} {od7 an7 : Option Addr} {sl7 : Array (Option Value)} {oc7 kV7 dc7 pm7 cd7 ct7 : Value}
    {f8 : Addr} {od8 an8 : Option Addr} {sl8 : Array (Option Value)} {oc8 kV8 dc8 pm8 cd8 ct8 : Value}
    {f9 : Addr} {od9 an9 : Option Addr} {sl9 : Array (Option Value)} {oc9 kV9 dc9 pm9 cd9 ct9 : Value}
    {f10 : Addr} {od10 an10 : Option Addr} {sl10 : Array (Option Value)} {oc10 kV10 dc10 pm10 cd10 ct10 : Value}
    {f14 : Addr} {od14 an14 : Option Addr} {sl14 : Array (Option Value)} {oc14 kV14 dc14 pm14 cd14 ct14 : Value}
    {f15 : Addr} {od15 an15 : Option Addr} {sl15 : Array (Option Value)} {oc15 kV15 dc15 pm15 cd15 ct15 : Value}
    {f16 : Addr} {od16 an16 : Option Addr} {sl16 : Array (Option Value)} {oc16 kV16 dc16 pm16 cd16 ct16 : Value}
    {f17 : Addr} {od17 an17 : Option Addr} {sl17 : Array (Option Value)} {oc17 kV17 dc17 pm17 cd17 ct17 : Value}
    {f18 : Addr} {od18 an18 : Option Addr} {sl18 : Array (Option Value)} {oc18 kV18 dc18 pm18 cd18 ct18 : Value}
    {f19 : Addr} {od19 an19 : Option Addr} {sl19 : Array (Option Value)} {oc19 kV19 dc19 pm19 cd19 ct19 : Value}
    {f20 : Addr} {od20 an20 : Option Addr} {sl20 : Array (Option Value)} {oc20 kV20 dc20 pm20 cd20 ct20 : Value}
    {f21 : Addr} {od21 an21 : Option Addr} {sl21 : Array (Option Value)} {oc21 kV21 dc21 pm21 cd21 ct21 : Value}
    {f22 : Addr} {od22 an22 : Option Addr} {sl22 : Array (Option Value)} {oc22 kV22 dc22 pm22 cd22 ct22 : Value}
    {f23 : Addr} {od23 an23 : Option Addr} {sl23 : Array (Option Value)} {oc23 kV23 dc23 pm23 cd23 ct23 : Value}
    {DT23 : Addr} {dto23 : Obj} {dti23 : List Value} {dtn23 : Nat}
    {f24 : Addr} {od24 an24 : Option Addr} {sl24 : Array (Option Value)} {oc24 kV24 dc24 pm24 cd24 ct24 : Value}
    {P24 : Addr} {pr24 : List Value}
    {f25 : Addr} {od25 an25 : Option Addr} {sl25 : Array (Option Value)} {oc25 kV25 dc25 pm25 cd25 ct25 : Value}
    {P25 : Addr} {pr25 : List Value}
    {f26 : Addr} {od26 an26 : Option Addr} {sl26 : Array (Option Value)} {oc26 kV26 dc26 pm26 cd26 ct26 : Value}
    {P26 : Addr} {pr26 : List Value}
    {f29 : Addr} {od29 an29 : Option Addr} {sl29 : Array (Option Value)} {oc29 kV29 dc29 pm29 cd29 ct29 : Value}
    {f34 : Addr} {od34 an34 : Option Addr} {sl34 : Array (Option Value)} {oc34 kV34 dc34 pm34 cd34 ct34 : Value}
    {f40 : Addr} {od40 an40 : Option Addr} {sl40 : Array (Option Value)} {oc40 dc40 pm40 cd40 ct40 : Value}
    {D40 : Addr} 
    {f41 : Addr} {od41 an41 : Option Addr} {sl41 : Array (Option Value)} {oc41 kV41 dc41 pm41 cd41 ct41 : Value}
    {f42 : Addr} {od42 an42 : Option Addr} {sl42 : Array (Option Value)} {oc42 kV42 dc42 pm42 cd42 ct42 : Value}
    {P42 : Addr} {pr42 : List Value}
    {f53 : Addr} {od53 an53 : Option Addr} {sl53 : Array (Option Value)} {oc53 kV53 dc53 pm53 cd53 ct53 : Value}
    {f60 : Addr} {od60 an60 : Option Addr} {sl60 : Array (Option Value)} {oc60 kV60 dc60 pm60 cd60 ct60 : Value}
    {f64 : Addr} {od64 an64 : Option Addr} {sl64 : Array (Option Value)} {oc64 dc64 pm64 cd64 ct64 : Value}
    {D64 : Addr} {t64_1 : Tok} {t64_3 : Tok}
    {f65 : Addr} {od65 an65 : Option Addr} {sl65 : Array (Option Value)} {oc65 kV65 dc65 pm65 cd65 ct65 : Value}
    {P65 : Addr} {pr65 : List Value}
    {f66 : Addr} {od66 an66 : Option Addr} {sl66 : Array (Option Value)} {oc66 kV66 dc66 pm66 cd66 ct66 : Value}
    {P66 : Addr} {pr66 : List Value}
    {f67 : Addr} {od67 an67 : Option Addr} {sl67 : Array (Option Value)} {oc67 kV67 dc67 pm67 cd67 ct67 : Value}
    {P67 : Addr} {pr67 : List Value}
    {f68 : Addr} {od68 an68 : Option Addr} {sl68 : Array (Option Value)} {oc68 kV68 dc68 pm68 cd68 ct68 : Value}
    {P68 : Addr} {pr68 : List Value}
    {f69 : Addr} {od69 an69 : Option Addr} {sl69 : Array (Option Value)} {oc69 kV69 dc69 pm69 cd69 ct69 : Value}
    {f70 : Addr} {od70 an70 : Option Addr} {sl70 : Array (Option Value)} {oc70 kV70 dc70 pm70 cd70 ct70 : Value}
    {K0 : Addr}
    {K1 : Addr}
    {K2 : Addr}
    {K3 : Addr}
    {K4 : Addr}
    {K5 : Addr}
    {J2 : Addr} {nm2 qu2 : Str} {N2 bs2 sn2 sub2 : _} {ab2 col2 dd2 m02 m12 m22 m32 m52 : _} {ioc2 idc2 ipm2 icd2 ict2 : Value} {iod2 ian2 : Option Addr} {isl2 : Array (Option Value)} {pa2 pb2 pc2 pd2 pe2 pf2 : Pos}
    {J3 : Addr} {nm3 qu3 : Str} {N3 bs3 sn3 sub3 : _} {ab3 col3 dd3 m03 m13 m23 m33 m53 : _} {ioc3 idc3 ipm3 icd3 ict3 : Value} {iod3 ian3 : Option Addr} {isl3 : Array (Option Value)} {pa3 pb3 pc3 pd3 pe3 pf3 : Pos}
    {J4 : Addr} {nm4 qu4 : Str} {N4 bs4 sn4 sub4 : _} {ab4 col4 dd4 m04 m14 m24 m34 m54 : _} {ioc4 idc4 ipm4 icd4 ict4 : Value} {iod4 ian4 : Option Addr} {isl4 : Array (Option Value)} {pa4 pb4 pc4 pd4 pe4 pf4 : Pos}
    {J5 : Addr} {nm5 qu5 : Str} {N5 bs5 sn5 sub5 : _} {ab5 col5 dd5 m05 m15 m25 m35 m55 : _} {ioc5 idc5 ipm5 icd5 ict5 : Value} {iod5 ian5 : Option Addr} {isl5 : Array (Option Value)} {pa5 pb5 pc5 pd5 pe5 pf5 : Pos}
    {tc0 : Tok}
    {tc1 : Tok}
    {tc2 : Tok}
    {KD3 : Addr} {kes3 : Array DictEntry} {ken3 : Nat} {kt3_0 : Tok} {kt3_1 : Tok} {kt3_2 : Tok} {kt3_3 : Tok} {kt3_4 : Tok} {kt3_5 : Tok} {kt3_6 : Tok} {kt3_7 : Tok} {kt3_8 : Tok} {kt3_9 : Tok} {kt3_10 : Tok} {kt3_11 : Tok} {kt3_12 : Tok} {kt3_13 : Tok} {kt3_14 : Tok} {kt3_15 : Tok}
    {KD4 : Addr} {kto4 : Obj} {kti4 : Array Value} {ktn4 : Nat}
    {tc5 : Tok}
    {KD6 : Addr} {kto6 : Obj} {kti6 : Array Value} {ktn6 : Nat}
    {KD7 : Addr} {kto7 : Obj} {kti7 : Array Value} {ktn7 : Nat}
    {KD8 : Addr} {kes8 : Array DictEntry} {ken8 : Nat} {kt8_0 : Tok} {kt8_1 : Tok} {kt8_2 : Tok} {kt8_3 : Tok} {kt8_4 : Tok} {kt8_5 : Tok}
    (oa0 : PySem.W.nsIn K mainGlobals "Rights" = some (some (.ref O0)))
    (opg0 : PySem.W.plainGet K O0 Str.empty = true)
    (ohd0 : PySem.W.hasDictIn K O0 = true)
    (opo0 : PySem.W.plainOver K O0 = true)
    (osa0 : PySem.W.findIn K (.ref O0) "__setattr__" = some (some (.builtin "object.__setattr__")))
    (omk0 : PySem.W.makesIn K O0 = true)
    (okc0 : PySem.W.keepIn K (.ref O0) = true)
    (oca0 : PySem.W.findIn K (.ref O0) "__class__" = some (some (.builtin "object.__class__")))
    (ocn0 : PySem.W.specialIn K (.builtin "object.__class__") "__get__" = some (some (.builtin "getset_descriptor.__get__")))
    (oct0 : PySem.W.takesIn K (.builtin "object.__class__") = some true)
    (ocm0 : PySem.W.mroIn K O0 (.type "object") = some true)
    (osf0 : PySem.W.selfFirst K O0 = true)
    (ocd0 : PySem.W.clsIn K O0 = some cdo0)
    (omr0 : cdo0.mro = [.ref O0, .type "object"])
    (one0 : PySem.W.findIn K (.ref O0) "__ne__" = some (some (.builtin "object.__ne__")))
    (ona_digit0 : PySem.W.findIn K (.ref O0) "_digit" = some none)
    (onfNoneType0 : PySem.W.notFirst K O0 (.type "NoneType") = true)
    (onfbool0 : PySem.W.notFirst K O0 (.type "bool") = true)
    (onfint0 : PySem.W.notFirst K O0 (.type "int") = true)
    (onfstr0 : PySem.W.notFirst K O0 (.type "str") = true)
    (onflist0 : PySem.W.notFirst K O0 (.type "list") = true)
    (onftuple0 : PySem.W.notFirst K O0 (.type "tuple") = true)
    (onfdict0 : PySem.W.notFirst K O0 (.type "dict") = true)
    (ord0 : PySem.W.readsIn K O0 (.type "type") = true)
    (org0 : PySem.W.specialIn K (.ref O0) "__getattribute__" = some (some (.builtin "type.__getattribute__")))
    (oic0 : PySem.W.isClsIn K O0 = true)
    (oyt0 : PySem.W.typeIn K (.ref O0) = some (.type "type"))
    (oktNoneType0 : PySem.W.subIn K (.type "NoneType") (.ref O0) = some false)
    (oktbool0 : PySem.W.subIn K (.type "bool") (.ref O0) = some false)
    (oktint0 : PySem.W.subIn K (.type "int") (.ref O0) = some false)
    (oktstr0 : PySem.W.subIn K (.type "str") (.ref O0) = some false)
    (oktlist0 : PySem.W.subIn K (.type "list") (.ref O0) = some false)
    (okttuple0 : PySem.W.subIn K (.type "tuple") (.ref O0) = some false)
    (oktdict0 : PySem.W.subIn K (.type "dict") (.ref O0) = some false)
    (oa1 : PySem.W.nsIn K mainGlobals "AccessList" = some (some (.ref O1)))
    (opg1 : PySem.W.plainGet K O1 Str.empty = true)
    (ohd1 : PySem.W.hasDictIn K O1 = true)
    (opo1 : PySem.W.plainOver K O1 = true)
    (osa1 : PySem.W.findIn K (.ref O1) "__setattr__" = some (some (.builtin "object.__setattr__")))
    (omk1 : PySem.W.makesIn K O1 = true)
    (okc1 : PySem.W.keepIn K (.ref O1) = true)
    (oca1 : PySem.W.findIn K (.ref O1) "__class__" = some (some (.builtin "object.__class__")))
    (ocn1 : PySem.W.specialIn K (.builtin "object.__class__") "__get__" = some (some (.builtin "getset_descriptor.__get__")))
    (oct1 : PySem.W.takesIn K (.builtin "object.__class__") = some true)
    (ocm1 : PySem.W.mroIn K O1 (.type "object") = some true)
    (osf1 : PySem.W.selfFirst K O1 = true)
    (ocd1 : PySem.W.clsIn K O1 = some cdo1)
    (omr1 : cdo1.mro = [.ref O1, .type "object"])
    (one1 : PySem.W.findIn K (.ref O1) "__ne__" = some (some (.builtin "object.__ne__")))
    (ona_owner1 : PySem.W.findIn K (.ref O1) "_owner" = some none)
    (ona_group1 : PySem.W.findIn K (.ref O1) "_group" = some none)
    (ona_other1 : PySem.W.findIn K (.ref O1) "_other" = some none)
    (ona_users1 : PySem.W.findIn K (.ref O1) "_users" = some none)
    (ona_groups1 : PySem.W.findIn K (.ref O1) "_groups" = some none)
    (ona_mask1 : PySem.W.findIn K (.ref O1) "_mask" = some none)
    (onfNoneType1 : PySem.W.notFirst K O1 (.type "NoneType") = true)
    (onfbool1 : PySem.W.notFirst K O1 (.type "bool") = true)
    (onfint1 : PySem.W.notFirst K O1 (.type "int") = true)
    (onfstr1 : PySem.W.notFirst K O1 (.type "str") = true)
    (onflist1 : PySem.W.notFirst K O1 (.type "list") = true)
    (onftuple1 : PySem.W.notFirst K O1 (.type "tuple") = true)
    (onfdict1 : PySem.W.notFirst K O1 (.type "dict") = true)
    (ord1 : PySem.W.readsIn K O1 (.type "type") = true)
    (org1 : PySem.W.specialIn K (.ref O1) "__getattribute__" = some (some (.builtin "type.__getattribute__")))
    (oic1 : PySem.W.isClsIn K O1 = true)
    (oyt1 : PySem.W.typeIn K (.ref O1) = some (.type "type"))
    (oktNoneType1 : PySem.W.subIn K (.type "NoneType") (.ref O1) = some false)
    (oktbool1 : PySem.W.subIn K (.type "bool") (.ref O1) = some false)
    (oktint1 : PySem.W.subIn K (.type "int") (.ref O1) = some false)
    (oktstr1 : PySem.W.subIn K (.type "str") (.ref O1) = some false)
    (oktlist1 : PySem.W.subIn K (.type "list") (.ref O1) = some false)
    (okttuple1 : PySem.W.subIn K (.type "tuple") (.ref O1) = some false)
    (oktdict1 : PySem.W.subIn K (.type "dict") (.ref O1) = some false)
    (oa2 : PySem.W.nsIn K mainGlobals "Start" = some (some (.ref O2)))
    (opg2 : PySem.W.plainGet K O2 Str.empty = true)
    (ohd2 : PySem.W.hasDictIn K O2 = true)
    (opo2 : PySem.W.plainOver K O2 = true)
    (osa2 : PySem.W.findIn K (.ref O2) "__setattr__" = some (some (.builtin "object.__setattr__")))
    (omk2 : PySem.W.makesIn K O2 = true)
    (okc2 : PySem.W.keepIn K (.ref O2) = true)
    (oca2 : PySem.W.findIn K (.ref O2) "__class__" = some (some (.builtin "object.__class__")))
    (ocn2 : PySem.W.specialIn K (.builtin "object.__class__") "__get__" = some (some (.builtin "getset_descriptor.__get__")))
    (oct2 : PySem.W.takesIn K (.builtin "object.__class__") = some true)
    (ocm2 : PySem.W.mroIn K O2 (.type "object") = some true)
    (osf2 : PySem.W.selfFirst K O2 = true)
    (ocd2 : PySem.W.clsIn K O2 = some cdo2)
    (omr2 : cdo2.mro = [.ref O2, .type "object"])
    (one2 : PySem.W.findIn K (.ref O2) "__ne__" = some (some (.builtin "object.__ne__")))
    (ona_default2 : PySem.W.findIn K (.ref O2) "_default" = some none)
    (ona_group2 : PySem.W.findIn K (.ref O2) "_group" = some none)
    (ona_passes2 : PySem.W.findIn K (.ref O2) "_passes" = some none)
    (ona_umask2 : PySem.W.findIn K (.ref O2) "_umask" = some none)
    (onfNoneType2 : PySem.W.notFirst K O2 (.type "NoneType") = true)
    (onfbool2 : PySem.W.notFirst K O2 (.type "bool") = true)
    (onfint2 : PySem.W.notFirst K O2 (.type "int") = true)
    (onfstr2 : PySem.W.notFirst K O2 (.type "str") = true)
    (onflist2 : PySem.W.notFirst K O2 (.type "list") = true)
    (onftuple2 : PySem.W.notFirst K O2 (.type "tuple") = true)
    (onfdict2 : PySem.W.notFirst K O2 (.type "dict") = true)
    (ord2 : PySem.W.readsIn K O2 (.type "type") = true)
    (org2 : PySem.W.specialIn K (.ref O2) "__getattribute__" = some (some (.builtin "type.__getattribute__")))
    (oic2 : PySem.W.isClsIn K O2 = true)
    (oyt2 : PySem.W.typeIn K (.ref O2) = some (.type "type"))
    (oktNoneType2 : PySem.W.subIn K (.type "NoneType") (.ref O2) = some false)
    (oktbool2 : PySem.W.subIn K (.type "bool") (.ref O2) = some false)
    (oktint2 : PySem.W.subIn K (.type "int") (.ref O2) = some false)
    (oktstr2 : PySem.W.subIn K (.type "str") (.ref O2) = some false)
    (oktlist2 : PySem.W.subIn K (.type "list") (.ref O2) = some false)
    (okttuple2 : PySem.W.subIn K (.type "tuple") (.ref O2) = some false)
    (oktdict2 : PySem.W.subIn K (.type "dict") (.ref O2) = some false)
    (a0 : PySem.W.nsIn K mainGlobals "_wall" = some (some (.ref f0)))
    (l0 : K.lookup f0 = some ⟨oc0, od0, .func (PySem.W.fnOf "_wall" "_wall" (defArgs s__wall) (defBody s__wall) (defScope s__wall) .none kV0 dc0 pm0 an0 cd0 ct0), sl0⟩)
    (c0 : PySem.W.codeIn K cd0 "_wall" = true) (k0 : PySem.W.keepIn K (.ref f0) = true)
    (a1 : PySem.W.nsIn K mainGlobals "is_integer" = some (some (.ref f1)))
    (l1 : K.lookup f1 = some ⟨oc1, od1, .func (PySem.W.fnOf "is_integer" "is_integer" (defArgs s_is_integer) (defBody s_is_integer) (defScope s_is_integer) .none kV1 dc1 pm1 an1 cd1 ct1), sl1⟩)
    (c1 : PySem.W.codeIn K cd1 "is_integer" = true) (k1 : PySem.W.keepIn K (.ref f1) = true)
    (a2 : PySem.W.nsIn K mainGlobals "is_name" = some (some (.ref f2)))
    (l2 : K.lookup f2 = some ⟨oc2, od2, .func (PySem.W.fnOf "is_name" "is_name" (defArgs s_is_name) (defBody s_is_name) (defScope s_is_name) .none kV2 dc2 pm2 an2 cd2 ct2), sl2⟩)
    (c2 : PySem.W.codeIn K cd2 "is_name" = true) (k2 : PySem.W.keepIn K (.ref f2) = true)
    (a3 : PySem.W.nsIn K mainGlobals "is_user_name" = some (some (.ref f3)))
    (l3 : K.lookup f3 = some ⟨oc3, od3, .func (PySem.W.fnOf "is_user_name" "is_user_name" (defArgs s_is_user_name) (defBody s_is_user_name) (defScope s_is_user_name) .none kV3 dc3 pm3 an3 cd3 ct3), sl3⟩)
    (c3 : PySem.W.codeIn K cd3 "is_user_name" = true) (k3 : PySem.W.keepIn K (.ref f3) = true)
    (a4 : PySem.W.nsIn K mainGlobals "as_rights" = some (some (.ref f4)))
    (l4 : K.lookup f4 = some ⟨oc4, od4, .func (PySem.W.fnOf "as_rights" "as_rights" (defArgs s_as_rights) (defBody s_as_rights) (defScope s_as_rights) .none kV4 dc4 pm4 an4 cd4 ct4), sl4⟩)
    (c4 : PySem.W.codeIn K cd4 "as_rights" = true) (k4 : PySem.W.keepIn K (.ref f4) = true)
    (a5 : PySem.W.nsIn K mainGlobals "_is_letters" = some (some (.ref f5)))
    (l5 : K.lookup f5 = some ⟨oc5, od5, .func (PySem.W.fnOf "_is_letters" "_is_letters" (defArgs s__is_letters) (defBody s__is_letters) (defScope s__is_letters) .none kV5 dc5 pm5 an5 cd5 ct5), sl5⟩)
    (c5 : PySem.W.codeIn K cd5 "_is_letters" = true) (k5 : PySem.W.keepIn K (.ref f5) = true)
    (a6 : PySem.W.nsIn K mainGlobals "_digit_of" = some (some (.ref f6)))
    (l6 : K.lookup f6 = some ⟨oc6, od6, .func (PySem.W.fnOf "_digit_of" "_digit_of" (defArgs s__digit_of) (defBody s__digit_of) (defScope s__digit_of) .none kV6 dc6 pm6 an6 cd6 ct6), sl6⟩)
    (c6 : PySem.W.codeIn K cd6 "_digit_of" = true) (k6 : PySem.W.keepIn K (.ref f6) = true)
    (a7 : PySem.W.nsIn K mainGlobals "is_digits" = some (some (.ref f7)))
    (l7 : K.lookup f7 = some ⟨oc7, od7, .func (PySem.W.fnOf "is_digits" "is_digits" (defArgs s_is_digits) (defBody s_is_digits) (defScope s_is_digits) .none kV7 dc7 pm7 an7 cd7 ct7), sl7⟩)
    (c7 : PySem.W.codeIn K cd7 "is_digits" = true) (k7 : PySem.W.keepIn K (.ref f7) = true)
    (a8 : PySem.W.nsIn K mainGlobals "_three_rights" = some (some (.ref f8)))
    (l8 : K.lookup f8 = some ⟨oc8, od8, .func (PySem.W.fnOf "_three_rights" "_three_rights" (defArgs s__three_rights) (defBody s__three_rights) (defScope s__three_rights) .none kV8 dc8 pm8 an8 cd8 ct8), sl8⟩)
    (c8 : PySem.W.codeIn K cd8 "_three_rights" = true) (k8 : PySem.W.keepIn K (.ref f8) = true)
    (a9 : PySem.W.nsIn K mainGlobals "_named_rights" = some (some (.ref f9)))
    (l9 : K.lookup f9 = some ⟨oc9, od9, .func (PySem.W.fnOf "_named_rights" "_named_rights" (defArgs s__named_rights) (defBody s__named_rights) (defScope s__named_rights) .none kV9 dc9 pm9 an9 cd9 ct9), sl9⟩)
    (c9 : PySem.W.codeIn K cd9 "_named_rights" = true) (k9 : PySem.W.keepIn K (.ref f9) = true)
    (a10 : PySem.W.nsIn K mainGlobals "_keys_in_order" = some (some (.ref f10)))
    (l10 : K.lookup f10 = some ⟨oc10, od10, .func (PySem.W.fnOf "_keys_in_order" "_keys_in_order" (defArgs s__keys_in_order) (defBody s__keys_in_order) (defScope s__keys_in_order) .none kV10 dc10 pm10 an10 cd10 ct10), sl10⟩)
    (c10 : PySem.W.codeIn K cd10 "_keys_in_order" = true) (k10 : PySem.W.keepIn K (.ref f10) = true)
    (a14 : PySem.W.nsIn K mainGlobals "_law_cell" = some (some (.ref f14)))
    (l14 : K.lookup f14 = some ⟨oc14, od14, .func (PySem.W.fnOf "_law_cell" "_law_cell" (defArgs s_cell) (defBody s_cell) (defScope s_cell) .none kV14 dc14 pm14 an14 cd14 ct14), sl14⟩)
    (c14 : PySem.W.codeIn K cd14 "_law_cell" = true) (k14 : PySem.W.keepIn K (.ref f14) = true)
    (a15 : PySem.W.nsIn K mainGlobals "_law_bag" = some (some (.ref f15)))
    (l15 : K.lookup f15 = some ⟨oc15, od15, .func (PySem.W.fnOf "_law_bag" "_law_bag" (defArgs s_bag) (defBody s_bag) (defScope s_bag) .none kV15 dc15 pm15 an15 cd15 ct15), sl15⟩)
    (c15 : PySem.W.codeIn K cd15 "_law_bag" = true) (k15 : PySem.W.keepIn K (.ref f15) = true)
    (a16 : PySem.W.nsIn K mainGlobals "_law_take" = some (some (.ref f16)))
    (l16 : K.lookup f16 = some ⟨oc16, od16, .func (PySem.W.fnOf "_law_take" "_law_take" (defArgs s_take) (defBody s_take) (defScope s_take) .none kV16 dc16 pm16 an16 cd16 ct16), sl16⟩)
    (c16 : PySem.W.codeIn K cd16 "_law_take" = true) (k16 : PySem.W.keepIn K (.ref f16) = true)
    (a17 : PySem.W.nsIn K mainGlobals "_law_part" = some (some (.ref f17)))
    (l17 : K.lookup f17 = some ⟨oc17, od17, .func (PySem.W.fnOf "_law_part" "_law_part" (defArgs s_part) (defBody s_part) (defScope s_part) .none kV17 dc17 pm17 an17 cd17 ct17), sl17⟩)
    (c17 : PySem.W.codeIn K cd17 "_law_part" = true) (k17 : PySem.W.keepIn K (.ref f17) = true)
    (a18 : PySem.W.nsIn K mainGlobals "_law_odd" = some (some (.ref f18)))
    (l18 : K.lookup f18 = some ⟨oc18, od18, .func (PySem.W.fnOf "_law_odd" "_law_odd" (defArgs s_odd) (defBody s_odd) (defScope s_odd) .none kV18 dc18 pm18 an18 cd18 ct18), sl18⟩)
    (c18 : PySem.W.codeIn K cd18 "_law_odd" = true) (k18 : PySem.W.keepIn K (.ref f18) = true)
    (a19 : PySem.W.nsIn K mainGlobals "_law_opened" = some (some (.ref f19)))
    (l19 : K.lookup f19 = some ⟨oc19, od19, .func (PySem.W.fnOf "_law_opened" "_law_opened" (defArgs s_opened) (defBody s_opened) (defScope s_opened) .none kV19 dc19 pm19 an19 cd19 ct19), sl19⟩)
    (c19 : PySem.W.codeIn K cd19 "_law_opened" = true) (k19 : PySem.W.keepIn K (.ref f19) = true)
    (a20 : PySem.W.nsIn K mainGlobals "_law_tried" = some (some (.ref f20)))
    (l20 : K.lookup f20 = some ⟨oc20, od20, .func (PySem.W.fnOf "_law_tried" "_law_tried" (defArgs s_tried) (defBody s_tried) (defScope s_tried) .none kV20 dc20 pm20 an20 cd20 ct20), sl20⟩)
    (c20 : PySem.W.codeIn K cd20 "_law_tried" = true) (k20 : PySem.W.keepIn K (.ref f20) = true)
    (a21 : PySem.W.nsIn K mainGlobals "_law_shown" = some (some (.ref f21)))
    (l21 : K.lookup f21 = some ⟨oc21, od21, .func (PySem.W.fnOf "_law_shown" "_law_shown" (defArgs s_shown) (defBody s_shown) (defScope s_shown) .none kV21 dc21 pm21 an21 cd21 ct21), sl21⟩)
    (c21 : PySem.W.codeIn K cd21 "_law_shown" = true) (k21 : PySem.W.keepIn K (.ref f21) = true)
    (a22 : PySem.W.nsIn K mainGlobals "law" = some (some (.ref f22)))
    (l22 : K.lookup f22 = some ⟨oc22, od22, .func (PySem.W.fnOf "law" "law" (defArgs s_law) (defBody s_law) (defScope s_law) .none kV22 dc22 pm22 an22 cd22 ct22), sl22⟩)
    (c22 : PySem.W.codeIn K cd22 "law" = true) (k22 : PySem.W.keepIn K (.ref f22) = true)
    (a23 : PySem.W.findIn K (.ref O0) "__init__" = some (some (.ref f23)))
    (t23 : PySem.W.isFn K (.ref f23) = true)
    (l23 : K.lookup f23 = some ⟨oc23, od23, .func (PySem.W.fnOf "__init__" "Rights.__init__" (defArgs s_Rights___init__) (defBody s_Rights___init__) (defScope s_Rights___init__) (.ref DT23) kV23 dc23 pm23 an23 cd23 ct23), sl23⟩)
    (c23 : PySem.W.codeIn K cd23 "Rights.__init__" = true)
    (k23 : PySem.W.keepIn K (.ref f23) = true)
    (dl23 : K.lookup DT23 = some dto23)
    (dd23 : dto23.data = .seq dti23.toArray dtn23)
    (dv23 : Vals [.str ""] dti23)
    (a24 : PySem.W.findCls K (.ref O0) (.type "type") "of" = some (PySem.W.CFound.get (.builtin "classmethod.__get__") (.ref P24) .none (.ref O0)))
    (px24 : PySem.W.recIn K P24 "classmethod" = some (.ref f24 :: pr24))
    (pf24 : PySem.W.fnIn K f24 = true)
    (l24 : K.lookup f24 = some ⟨oc24, od24, .func (PySem.W.fnOf "of" "Rights.of" (defArgs s_Rights_of) (defBody s_Rights_of) (defScope s_Rights_of) .none kV24 dc24 pm24 an24 cd24 ct24), sl24⟩)
    (c24 : PySem.W.codeIn K cd24 "Rights.of" = true)
    (k24 : PySem.W.keepIn K (.ref f24) = true)
    (a25 : PySem.W.findCls K (.ref O0) (.type "type") "from_digit" = some (PySem.W.CFound.get (.builtin "classmethod.__get__") (.ref P25) .none (.ref O0)))
    (px25 : PySem.W.recIn K P25 "classmethod" = some (.ref f25 :: pr25))
    (pf25 : PySem.W.fnIn K f25 = true)
    (l25 : K.lookup f25 = some ⟨oc25, od25, .func (PySem.W.fnOf "from_digit" "Rights.from_digit" (defArgs s_Rights_from_digit) (defBody s_Rights_from_digit) (defScope s_Rights_from_digit) .none kV25 dc25 pm25 an25 cd25 ct25), sl25⟩)
    (c25 : PySem.W.codeIn K cd25 "Rights.from_digit" = true)
    (k25 : PySem.W.keepIn K (.ref f25) = true)
    (a26 : PySem.W.findIn K (.ref O0) "digit" = some (some (.ref P26)))
    (pg26 : PySem.W.specialIn K (.ref P26) "__get__" = some (some (.builtin "property.__get__")))
    (pt26 : PySem.W.takesIn K (.ref P26) = some true)
    (px26 : PySem.W.recIn K P26 "property" = some (.ref f26 :: pr26))
    (l26 : K.lookup f26 = some ⟨oc26, od26, .func (PySem.W.fnOf "digit" "Rights.digit" (defArgs s_Rights_digit) (defBody s_Rights_digit) (defScope s_Rights_digit) .none kV26 dc26 pm26 an26 cd26 ct26), sl26⟩)
    (c26 : PySem.W.codeIn K cd26 "Rights.digit" = true)
    (k26 : PySem.W.keepIn K (.ref f26) = true)
    (a29 : PySem.W.findIn K (.ref O0) "__or__" = some (some (.ref f29)))
    (t29 : PySem.W.isFn K (.ref f29) = true)
    (l29 : K.lookup f29 = some ⟨oc29, od29, .func (PySem.W.fnOf "__or__" "Rights.__or__" (defArgs s_Rights___or__) (defBody s_Rights___or__) (defScope s_Rights___or__) .none kV29 dc29 pm29 an29 cd29 ct29), sl29⟩)
    (c29 : PySem.W.codeIn K cd29 "Rights.__or__" = true)
    (k29 : PySem.W.keepIn K (.ref f29) = true)
    (a34 : PySem.W.findIn K (.ref O0) "__eq__" = some (some (.ref f34)))
    (t34 : PySem.W.isFn K (.ref f34) = true)
    (l34 : K.lookup f34 = some ⟨oc34, od34, .func (PySem.W.fnOf "__eq__" "Rights.__eq__" (defArgs s_Rights___eq__) (defBody s_Rights___eq__) (defScope s_Rights___eq__) .none kV34 dc34 pm34 an34 cd34 ct34), sl34⟩)
    (c34 : PySem.W.codeIn K cd34 "Rights.__eq__" = true)
    (k34 : PySem.W.keepIn K (.ref f34) = true)
    (a40 : PySem.W.findIn K (.ref O1) "__init__" = some (some (.ref f40)))
    (t40 : PySem.W.isFn K (.ref f40) = true)
    (l40 : K.lookup f40 = some ⟨oc40, od40, .func (PySem.W.fnOf "__init__" "AccessList.__init__" (defArgs s_AccessList___init__) (defBody s_AccessList___init__) (defScope s_AccessList___init__) .none (.ref D40) dc40 pm40 an40 cd40 ct40), sl40⟩)
    (c40 : PySem.W.codeIn K cd40 "AccessList.__init__" = true)
    (k40 : PySem.W.keepIn K (.ref f40) = true)
    (w40_0 : PySem.W.nsIn K D40 "users" = some (some .none))
    (w40_1 : PySem.W.nsIn K D40 "groups" = some (some .none))
    (w40_2 : PySem.W.nsIn K D40 "mask" = some (some .none))
    (a41 : PySem.W.findIn K (.ref O1) "_first_mask" = some (some (.ref f41)))
    (t41 : PySem.W.isFn K (.ref f41) = true)
    (l41 : K.lookup f41 = some ⟨oc41, od41, .func (PySem.W.fnOf "_first_mask" "AccessList._first_mask" (defArgs s_AccessList__first_mask) (defBody s_AccessList__first_mask) (defScope s_AccessList__first_mask) .none kV41 dc41 pm41 an41 cd41 ct41), sl41⟩)
    (c41 : PySem.W.codeIn K cd41 "AccessList._first_mask" = true)
    (k41 : PySem.W.keepIn K (.ref f41) = true)
    (a42 : PySem.W.findCls K (.ref O1) (.type "type") "plain" = some (PySem.W.CFound.get (.builtin "classmethod.__get__") (.ref P42) .none (.ref O1)))
    (px42 : PySem.W.recIn K P42 "classmethod" = some (.ref f42 :: pr42))
    (pf42 : PySem.W.fnIn K f42 = true)
    (l42 : K.lookup f42 = some ⟨oc42, od42, .func (PySem.W.fnOf "plain" "AccessList.plain" (defArgs s_AccessList_plain) (defBody s_AccessList_plain) (defScope s_AccessList_plain) .none kV42 dc42 pm42 an42 cd42 ct42), sl42⟩)
    (c42 : PySem.W.codeIn K cd42 "AccessList.plain" = true)
    (k42 : PySem.W.keepIn K (.ref f42) = true)
    (a53 : PySem.W.findIn K (.ref O1) "entries" = some (some (.ref f53)))
    (t53 : PySem.W.isFn K (.ref f53) = true)
    (l53 : K.lookup f53 = some ⟨oc53, od53, .func (PySem.W.fnOf "entries" "AccessList.entries" (defArgs s_AccessList_entries) (defBody s_AccessList_entries) (defScope s_AccessList_entries) .none kV53 dc53 pm53 an53 cd53 ct53), sl53⟩)
    (c53 : PySem.W.codeIn K cd53 "AccessList.entries" = true)
    (k53 : PySem.W.keepIn K (.ref f53) = true)
    (a60 : PySem.W.findIn K (.ref O1) "__eq__" = some (some (.ref f60)))
    (t60 : PySem.W.isFn K (.ref f60) = true)
    (l60 : K.lookup f60 = some ⟨oc60, od60, .func (PySem.W.fnOf "__eq__" "AccessList.__eq__" (defArgs s_AccessList___eq__) (defBody s_AccessList___eq__) (defScope s_AccessList___eq__) .none kV60 dc60 pm60 an60 cd60 ct60), sl60⟩)
    (c60 : PySem.W.codeIn K cd60 "AccessList.__eq__" = true)
    (k60 : PySem.W.keepIn K (.ref f60) = true)
    (a64 : PySem.W.findIn K (.ref O2) "__init__" = some (some (.ref f64)))
    (t64 : PySem.W.isFn K (.ref f64) = true)
    (l64 : K.lookup f64 = some ⟨oc64, od64, .func (PySem.W.fnOf "__init__" "Start.__init__" (defArgs s_Start___init__) (defBody s_Start___init__) (defScope s_Start___init__) .none (.ref D64) dc64 pm64 an64 cd64 ct64), sl64⟩)
    (c64 : PySem.W.codeIn K cd64 "Start.__init__" = true)
    (k64 : PySem.W.keepIn K (.ref f64) = true)
    (w64_0 : PySem.W.nsIn K D64 "default" = some (some .none))
    (w64_1 : PySem.W.nsIn K D64 "group" = some (some (.str "root" t64_1)))
    (w64_2 : PySem.W.nsIn K D64 "passes" = some (some (.bool false)))
    (w64_3 : PySem.W.nsIn K D64 "umask" = some (some (.str "000" t64_3)))
    (a65 : PySem.W.findIn K (.ref O2) "default" = some (some (.ref P65)))
    (pg65 : PySem.W.specialIn K (.ref P65) "__get__" = some (some (.builtin "property.__get__")))
    (pt65 : PySem.W.takesIn K (.ref P65) = some true)
    (px65 : PySem.W.recIn K P65 "property" = some (.ref f65 :: pr65))
    (l65 : K.lookup f65 = some ⟨oc65, od65, .func (PySem.W.fnOf "default" "Start.default" (defArgs s_Start_default) (defBody s_Start_default) (defScope s_Start_default) .none kV65 dc65 pm65 an65 cd65 ct65), sl65⟩)
    (c65 : PySem.W.codeIn K cd65 "Start.default" = true)
    (k65 : PySem.W.keepIn K (.ref f65) = true)
    (a66 : PySem.W.findIn K (.ref O2) "group" = some (some (.ref P66)))
    (pg66 : PySem.W.specialIn K (.ref P66) "__get__" = some (some (.builtin "property.__get__")))
    (pt66 : PySem.W.takesIn K (.ref P66) = some true)
    (px66 : PySem.W.recIn K P66 "property" = some (.ref f66 :: pr66))
    (l66 : K.lookup f66 = some ⟨oc66, od66, .func (PySem.W.fnOf "group" "Start.group" (defArgs s_Start_group) (defBody s_Start_group) (defScope s_Start_group) .none kV66 dc66 pm66 an66 cd66 ct66), sl66⟩)
    (c66 : PySem.W.codeIn K cd66 "Start.group" = true)
    (k66 : PySem.W.keepIn K (.ref f66) = true)
    (a67 : PySem.W.findIn K (.ref O2) "passes" = some (some (.ref P67)))
    (pg67 : PySem.W.specialIn K (.ref P67) "__get__" = some (some (.builtin "property.__get__")))
    (pt67 : PySem.W.takesIn K (.ref P67) = some true)
    (px67 : PySem.W.recIn K P67 "property" = some (.ref f67 :: pr67))
    (l67 : K.lookup f67 = some ⟨oc67, od67, .func (PySem.W.fnOf "passes" "Start.passes" (defArgs s_Start_passes) (defBody s_Start_passes) (defScope s_Start_passes) .none kV67 dc67 pm67 an67 cd67 ct67), sl67⟩)
    (c67 : PySem.W.codeIn K cd67 "Start.passes" = true)
    (k67 : PySem.W.keepIn K (.ref f67) = true)
    (a68 : PySem.W.findIn K (.ref O2) "umask" = some (some (.ref P68)))
    (pg68 : PySem.W.specialIn K (.ref P68) "__get__" = some (some (.builtin "property.__get__")))
    (pt68 : PySem.W.takesIn K (.ref P68) = some true)
    (px68 : PySem.W.recIn K P68 "property" = some (.ref f68 :: pr68))
    (l68 : K.lookup f68 = some ⟨oc68, od68, .func (PySem.W.fnOf "umask" "Start.umask" (defArgs s_Start_umask) (defBody s_Start_umask) (defScope s_Start_umask) .none kV68 dc68 pm68 an68 cd68 ct68), sl68⟩)
    (c68 : PySem.W.codeIn K cd68 "Start.umask" = true)
    (k68 : PySem.W.keepIn K (.ref f68) = true)
    (a69 : PySem.W.findIn K (.ref O2) "_told" = some (some (.ref f69)))
    (t69 : PySem.W.isFn K (.ref f69) = true)
    (l69 : K.lookup f69 = some ⟨oc69, od69, .func (PySem.W.fnOf "_told" "Start._told" (defArgs s_Start__told) (defBody s_Start__told) (defScope s_Start__told) .none kV69 dc69 pm69 an69 cd69 ct69), sl69⟩)
    (c69 : PySem.W.codeIn K cd69 "Start._told" = true)
    (k69 : PySem.W.keepIn K (.ref f69) = true)
    (a70 : PySem.W.findIn K (.ref O2) "__eq__" = some (some (.ref f70)))
    (t70 : PySem.W.isFn K (.ref f70) = true)
    (l70 : K.lookup f70 = some ⟨oc70, od70, .func (PySem.W.fnOf "__eq__" "Start.__eq__" (defArgs s_Start___eq__) (defBody s_Start___eq__) (defScope s_Start___eq__) .none kV70 dc70 pm70 an70 cd70 ct70), sl70⟩)
    (c70 : PySem.W.codeIn K cd70 "Start.__eq__" = true)
    (k70 : PySem.W.keepIn K (.ref f70) = true)
    (ka0 : PySem.W.nsIn K mainGlobals "RightsError" = some (some (.ref K0)))
    (ka1 : PySem.W.nsIn K mainGlobals "MissingError" = some (some (.ref K1)))
    (ka2 : PySem.W.nsIn K mainGlobals "InvalidList" = some (some (.ref K2)))
    (ka3 : PySem.W.nsIn K mainGlobals "InvalidName" = some (some (.ref K3)))
    (ka4 : PySem.W.nsIn K mainGlobals "InvalidNode" = some (some (.ref K4)))
    (ka5 : PySem.W.nsIn K mainGlobals "InvalidDigits" = some (some (.ref K5)))
    (ic0 : PySem.W.isClsIn K K0 = true) (yt0 : PySem.W.typeIn K (.ref K0) = some (.type "type"))
    (ic1 : PySem.W.isClsIn K K1 = true) (yt1 : PySem.W.typeIn K (.ref K1) = some (.type "type"))
    (xl2 : K.lookup K2 = some (excClassObj nm2 qu2 K2 N2 bs2 [.ref K0, .type "ValueError", .type "Exception", .type "BaseException", .type "object"] true sn2 sub2 ab2 col2 dd2 m02 m12 m22 m32 m52 "ValueError.__new__"))
    (sa2 : PySem.W.findIn K (.ref K2) "__setattr__" = some (some (.builtin "object.__setattr__")))
    (ga2 : PySem.W.findIn K (.ref K2) "__getattribute__" = some (some (.builtin "BaseException.__getattribute__")))
    (gg2 : PySem.W.findIn K (.ref K2) "__getattr__" = some none)
    (nb2 : PySem.W.findIn K (.ref K2) "value" = some none)
    (in2 : PySem.W.findIn K (.ref K2) "__init__" = some (some (.ref J2)))
    (ti2 : PySem.W.typeIn K (.ref J2) = some (.type "function"))
    (li2 : K.lookup J2 = some ⟨ioc2, iod2, .func (PySem.W.fnOf "__init__" "InvalidList.__init__" (PySem.ExV.iA pa2 pb2) (PySem.ExV.iB pc2 pd2 pe2 pf2) PySem.ExV.iS .none .none idc2 ipm2 ian2 icd2 ict2), isl2⟩)
    (ci2 : PySem.W.codeIn K icd2 "InvalidList.__init__" = true)
    (kc2 : PySem.W.keepIn K (.ref K2) = true)
    (eb2 : PySem.W.subIn K (.ref K2) (.type "BaseException") = some true)
    (yt2 : PySem.W.typeIn K (.ref K2) = some (.type "type"))
    (hd2 : PySem.W.hasDictIn K K2 = true)
    (ic2 : PySem.W.isClsIn K K2 = true)
    (sc2 : PySem.W.subIn K (.ref K2) (.ref K2) = some true)
    (ca2 : PySem.W.findIn K (.ref K2) "__class__" = some (some (.builtin "object.__class__")))
    (cn2 : PySem.W.specialIn K (.builtin "object.__class__") "__get__" = some (some (.builtin "getset_descriptor.__get__")))
    (xt2 : PySem.W.takesIn K (.builtin "object.__class__") = some true)
    (cm2 : PySem.W.mroIn K K2 (.type "object") = some true)
    (xl3 : K.lookup K3 = some (excClassObj nm3 qu3 K3 N3 bs3 [.ref K0, .type "ValueError", .type "Exception", .type "BaseException", .type "object"] true sn3 sub3 ab3 col3 dd3 m03 m13 m23 m33 m53 "ValueError.__new__"))
    (sa3 : PySem.W.findIn K (.ref K3) "__setattr__" = some (some (.builtin "object.__setattr__")))
    (ga3 : PySem.W.findIn K (.ref K3) "__getattribute__" = some (some (.builtin "BaseException.__getattribute__")))
    (gg3 : PySem.W.findIn K (.ref K3) "__getattr__" = some none)
    (nb3 : PySem.W.findIn K (.ref K3) "value" = some none)
    (in3 : PySem.W.findIn K (.ref K3) "__init__" = some (some (.ref J3)))
    (ti3 : PySem.W.typeIn K (.ref J3) = some (.type "function"))
    (li3 : K.lookup J3 = some ⟨ioc3, iod3, .func (PySem.W.fnOf "__init__" "InvalidName.__init__" (PySem.ExV.iA pa3 pb3) (PySem.ExV.iB pc3 pd3 pe3 pf3) PySem.ExV.iS .none .none idc3 ipm3 ian3 icd3 ict3), isl3⟩)
    (ci3 : PySem.W.codeIn K icd3 "InvalidName.__init__" = true)
    (kc3 : PySem.W.keepIn K (.ref K3) = true)
    (eb3 : PySem.W.subIn K (.ref K3) (.type "BaseException") = some true)
    (yt3 : PySem.W.typeIn K (.ref K3) = some (.type "type"))
    (hd3 : PySem.W.hasDictIn K K3 = true)
    (ic3 : PySem.W.isClsIn K K3 = true)
    (sc3 : PySem.W.subIn K (.ref K3) (.ref K3) = some true)
    (ca3 : PySem.W.findIn K (.ref K3) "__class__" = some (some (.builtin "object.__class__")))
    (cn3 : PySem.W.specialIn K (.builtin "object.__class__") "__get__" = some (some (.builtin "getset_descriptor.__get__")))
    (xt3 : PySem.W.takesIn K (.builtin "object.__class__") = some true)
    (cm3 : PySem.W.mroIn K K3 (.type "object") = some true)
    (xl4 : K.lookup K4 = some (excClassObj nm4 qu4 K4 N4 bs4 [.ref K0, .type "ValueError", .type "Exception", .type "BaseException", .type "object"] true sn4 sub4 ab4 col4 dd4 m04 m14 m24 m34 m54 "ValueError.__new__"))
    (sa4 : PySem.W.findIn K (.ref K4) "__setattr__" = some (some (.builtin "object.__setattr__")))
    (ga4 : PySem.W.findIn K (.ref K4) "__getattribute__" = some (some (.builtin "BaseException.__getattribute__")))
    (gg4 : PySem.W.findIn K (.ref K4) "__getattr__" = some none)
    (nb4 : PySem.W.findIn K (.ref K4) "value" = some none)
    (in4 : PySem.W.findIn K (.ref K4) "__init__" = some (some (.ref J4)))
    (ti4 : PySem.W.typeIn K (.ref J4) = some (.type "function"))
    (li4 : K.lookup J4 = some ⟨ioc4, iod4, .func (PySem.W.fnOf "__init__" "InvalidNode.__init__" (PySem.ExV.iA pa4 pb4) (PySem.ExV.iB pc4 pd4 pe4 pf4) PySem.ExV.iS .none .none idc4 ipm4 ian4 icd4 ict4), isl4⟩)
    (ci4 : PySem.W.codeIn K icd4 "InvalidNode.__init__" = true)
    (kc4 : PySem.W.keepIn K (.ref K4) = true)
    (eb4 : PySem.W.subIn K (.ref K4) (.type "BaseException") = some true)
    (yt4 : PySem.W.typeIn K (.ref K4) = some (.type "type"))
    (hd4 : PySem.W.hasDictIn K K4 = true)
    (ic4 : PySem.W.isClsIn K K4 = true)
    (sc4 : PySem.W.subIn K (.ref K4) (.ref K4) = some true)
    (ca4 : PySem.W.findIn K (.ref K4) "__class__" = some (some (.builtin "object.__class__")))
    (cn4 : PySem.W.specialIn K (.builtin "object.__class__") "__get__" = some (some (.builtin "getset_descriptor.__get__")))
    (xt4 : PySem.W.takesIn K (.builtin "object.__class__") = some true)
    (cm4 : PySem.W.mroIn K K4 (.type "object") = some true)
    (xl5 : K.lookup K5 = some (excClassObj nm5 qu5 K5 N5 bs5 [.ref K0, .type "ValueError", .type "Exception", .type "BaseException", .type "object"] true sn5 sub5 ab5 col5 dd5 m05 m15 m25 m35 m55 "ValueError.__new__"))
    (sa5 : PySem.W.findIn K (.ref K5) "__setattr__" = some (some (.builtin "object.__setattr__")))
    (ga5 : PySem.W.findIn K (.ref K5) "__getattribute__" = some (some (.builtin "BaseException.__getattribute__")))
    (gg5 : PySem.W.findIn K (.ref K5) "__getattr__" = some none)
    (nb5 : PySem.W.findIn K (.ref K5) "value" = some none)
    (in5 : PySem.W.findIn K (.ref K5) "__init__" = some (some (.ref J5)))
    (ti5 : PySem.W.typeIn K (.ref J5) = some (.type "function"))
    (li5 : K.lookup J5 = some ⟨ioc5, iod5, .func (PySem.W.fnOf "__init__" "InvalidDigits.__init__" (PySem.ExV.iA pa5 pb5) (PySem.ExV.iB pc5 pd5 pe5 pf5) PySem.ExV.iS .none .none idc5 ipm5 ian5 icd5 ict5), isl5⟩)
    (ci5 : PySem.W.codeIn K icd5 "InvalidDigits.__init__" = true)
    (kc5 : PySem.W.keepIn K (.ref K5) = true)
    (eb5 : PySem.W.subIn K (.ref K5) (.type "BaseException") = some true)
    (yt5 : PySem.W.typeIn K (.ref K5) = some (.type "type"))
    (hd5 : PySem.W.hasDictIn K K5 = true)
    (ic5 : PySem.W.isClsIn K K5 = true)
    (sc5 : PySem.W.subIn K (.ref K5) (.ref K5) = some true)
    (ca5 : PySem.W.findIn K (.ref K5) "__class__" = some (some (.builtin "object.__class__")))
    (cn5 : PySem.W.specialIn K (.builtin "object.__class__") "__get__" = some (some (.builtin "getset_descriptor.__get__")))
    (xt5 : PySem.W.takesIn K (.builtin "object.__class__") = some true)
    (cm5 : PySem.W.mroIn K K5 (.type "object") = some true)
    (kit_InvalidList_RightsError : PySem.W.subIn K (.ref K2) (.ref K0) = some true)
    (kit_InvalidName_RightsError : PySem.W.subIn K (.ref K3) (.ref K0) = some true)
    (kit_InvalidNode_RightsError : PySem.W.subIn K (.ref K4) (.ref K0) = some true)
    (kit_InvalidDigits_RightsError : PySem.W.subIn K (.ref K5) (.ref K0) = some true)
    (kit_InvalidNode_MissingError : PySem.W.subIn K (.ref K4) (.ref K1) = some false)
    (exm_InvalidName_InvalidList : PySem.W.subIn K (.ref K3) (.ref K2) = some false)
    (exm_InvalidNode_InvalidList : PySem.W.subIn K (.ref K4) (.ref K2) = some false)
    (exm_InvalidNode_InvalidName : PySem.W.subIn K (.ref K4) (.ref K3) = some false)
    (exm_InvalidDigits_InvalidList : PySem.W.subIn K (.ref K5) (.ref K2) = some false)
    (exm_InvalidDigits_InvalidName : PySem.W.subIn K (.ref K5) (.ref K3) = some false)
    (exm_InvalidDigits_InvalidNode : PySem.W.subIn K (.ref K5) (.ref K4) = some false)
    (q0 : PySem.W.nsIn K mainGlobals "LONGEST_NAME" = some (some (.int 8 tc0)))
    (q1 : PySem.W.nsIn K mainGlobals "LETTERS" = some (some (.str "rwx" tc1)))
    (q2 : PySem.W.nsIn K mainGlobals "ALL_DIGIT" = some (some (.int 7 tc2)))
    (q3 : PySem.W.nsIn K mainGlobals "DIGITS" = some (some (.ref KD3)))
    (kl3 : K.lookup KD3 = some ⟨.type "dict", none, .dict kes3 ken3, #[]⟩)
    (ky3 : PySem.W.KeysLit w.params kes3.toList)
    (ks3 : (KD3 == sysModules) = false)
    (kq3 : Vals [.str "", .str "x", .str "w", .str "wx", .str "xw", .str "r", .str "rx", .str "xr", .str "rw", .str "wr", .str "rwx", .str "rxw", .str "wrx", .str "wxr", .str "xrw", .str "xwr"] (kes3.toList.map (·.key)))
    (kv3_0 : PySem.W.nsIn K KD3 "" = some (some (.int 0 kt3_0)))
    (kv3_1 : PySem.W.nsIn K KD3 "x" = some (some (.int 1 kt3_1)))
    (kv3_2 : PySem.W.nsIn K KD3 "w" = some (some (.int 2 kt3_2)))
    (kv3_3 : PySem.W.nsIn K KD3 "wx" = some (some (.int 3 kt3_3)))
    (kv3_4 : PySem.W.nsIn K KD3 "xw" = some (some (.int 3 kt3_4)))
    (kv3_5 : PySem.W.nsIn K KD3 "r" = some (some (.int 4 kt3_5)))
    (kv3_6 : PySem.W.nsIn K KD3 "rx" = some (some (.int 5 kt3_6)))
    (kv3_7 : PySem.W.nsIn K KD3 "xr" = some (some (.int 5 kt3_7)))
    (kv3_8 : PySem.W.nsIn K KD3 "rw" = some (some (.int 6 kt3_8)))
    (kv3_9 : PySem.W.nsIn K KD3 "wr" = some (some (.int 6 kt3_9)))
    (kv3_10 : PySem.W.nsIn K KD3 "rwx" = some (some (.int 7 kt3_10)))
    (kv3_11 : PySem.W.nsIn K KD3 "rxw" = some (some (.int 7 kt3_11)))
    (kv3_12 : PySem.W.nsIn K KD3 "wrx" = some (some (.int 7 kt3_12)))
    (kv3_13 : PySem.W.nsIn K KD3 "wxr" = some (some (.int 7 kt3_13)))
    (kv3_14 : PySem.W.nsIn K KD3 "xrw" = some (some (.int 7 kt3_14)))
    (kv3_15 : PySem.W.nsIn K KD3 "xwr" = some (some (.int 7 kt3_15)))
    (q4 : PySem.W.nsIn K mainGlobals "WORDS" = some (some (.ref KD4)))
    (kl4 : K.lookup KD4 = some kto4)
    (ku4 : kto4.cls = .type "tuple")
    (kd4 : kto4.data = .seq kti4 ktn4)
    (kz4 : kti4.size ≤ sizeLine)
    (kv4 : Vals [.str "", .str "x", .str "w", .str "wx", .str "r", .str "rx", .str "rw", .str "rwx"] kti4.toList)
    (q5 : PySem.W.nsIn K mainGlobals "MOST_NAMED" = some (some (.int 6 tc5)))
    (q6 : PySem.W.nsIn K mainGlobals "PLAIN_KINDS" = some (some (.ref KD6)))
    (kl6 : K.lookup KD6 = some kto6)
    (ku6 : kto6.cls = .type "tuple")
    (kd6 : kto6.data = .seq kti6 ktn6)
    (kz6 : kti6.size ≤ sizeLine)
    (kv6 : Vals [.str "owner", .str "group", .str "mask", .str "other"] kti6.toList)
    (q7 : PySem.W.nsIn K mainGlobals "NAMED_KINDS" = some (some (.ref KD7)))
    (kl7 : K.lookup KD7 = some kto7)
    (ku7 : kto7.cls = .type "tuple")
    (kd7 : kto7.data = .seq kti7 ktn7)
    (kz7 : kti7.size ≤ sizeLine)
    (kv7 : Vals [.str "user", .str "named"] kti7.toList)
    (q8 : PySem.W.nsIn K mainGlobals "KIND_SIGNS" = some (some (.ref KD8)))
    (kl8 : K.lookup KD8 = some ⟨.type "dict", none, .dict kes8 ken8, #[]⟩)
    (ky8 : PySem.W.KeysLit w.params kes8.toList)
    (ks8 : (KD8 == sysModules) = false)
    (kq8 : Vals [.str "owner", .str "user", .str "group", .str "named", .str "mask", .str "other"] (kes8.toList.map (·.key)))
    (kv8_0 : PySem.W.nsIn K KD8 "owner" = some (some (.str "u" kt8_0)))
    (kv8_1 : PySem.W.nsIn K KD8 "user" = some (some (.str "u" kt8_1)))
    (kv8_2 : PySem.W.nsIn K KD8 "group" = some (some (.str "g" kt8_2)))
    (kv8_3 : PySem.W.nsIn K KD8 "named" = some (some (.str "g" kt8_3)))
    (kv8_4 : PySem.W.nsIn K KD8 "mask" = some (some (.str "m" kt8_4)))
    (kv8_5 : PySem.W.nsIn K KD8 "other" = some (some (.str "o" kt8_5)))
    (z0 : PySem.W.nsIn K mainGlobals "all" = some none)
    (z1 : PySem.W.nsIn K mainGlobals "bool" = some none)
    (z2 : PySem.W.nsIn K mainGlobals "dict" = some none)
    (z3 : PySem.W.nsIn K mainGlobals "int" = some none)
    (z4 : PySem.W.nsIn K mainGlobals "isinstance" = some none)
    (z5 : PySem.W.nsIn K mainGlobals "len" = some none)
    (z6 : PySem.W.nsIn K mainGlobals "list" = some none)
    (z7 : PySem.W.nsIn K mainGlobals "max" = some none)
    (z8 : PySem.W.nsIn K mainGlobals "min" = some none)
    (z9 : PySem.W.nsIn K mainGlobals "range" = some none)
    (z10 : PySem.W.nsIn K mainGlobals "repr" = some none)
    (z11 : PySem.W.nsIn K mainGlobals "sorted" = some none)
    (z12 : PySem.W.nsIn K mainGlobals "str" = some none) :
    ∀ base : Heap, K.In base → base.Ns mainGlobals mg → FnG P w K mg base CX0 14 fa (spLaw K) := by
  have e := hfa.symm.trans (PySem.W.mg_of X G a22)
  cases e
  let A : Ads := {
    C_Rights := O0
    C_AccessList := O1
    C_Start := O2
    f__wall := f0
    d__wall := PySem.W.fnOf "_wall" "_wall" (defArgs s__wall) (defBody s__wall) (defScope s__wall) .none kV0 dc0 pm0 an0 cd0 ct0
    f_is_integer := f1
    d_is_integer := PySem.W.fnOf "is_integer" "is_integer" (defArgs s_is_integer) (defBody s_is_integer) (defScope s_is_integer) .none kV1 dc1 pm1 an1 cd1 ct1
    f_is_name := f2
    d_is_name := PySem.W.fnOf "is_name" "is_name" (defArgs s_is_name) (defBody s_is_name) (defScope s_is_name) .none kV2 dc2 pm2 an2 cd2 ct2
    f_is_user_name := f3
    d_is_user_name := PySem.W.fnOf "is_user_name" "is_user_name" (defArgs s_is_user_name) (defBody s_is_user_name) (defScope s_is_user_name) .none kV3 dc3 pm3 an3 cd3 ct3
    f_as_rights := f4
    d_as_rights := PySem.W.fnOf "as_rights" "as_rights" (defArgs s_as_rights) (defBody s_as_rights) (defScope s_as_rights) .none kV4 dc4 pm4 an4 cd4 ct4
    f__is_letters := f5
    d__is_letters := PySem.W.fnOf "_is_letters" "_is_letters" (defArgs s__is_letters) (defBody s__is_letters) (defScope s__is_letters) .none kV5 dc5 pm5 an5 cd5 ct5
    f__digit_of := f6
    d__digit_of := PySem.W.fnOf "_digit_of" "_digit_of" (defArgs s__digit_of) (defBody s__digit_of) (defScope s__digit_of) .none kV6 dc6 pm6 an6 cd6 ct6
    f_is_digits := f7
    d_is_digits := PySem.W.fnOf "is_digits" "is_digits" (defArgs s_is_digits) (defBody s_is_digits) (defScope s_is_digits) .none kV7 dc7 pm7 an7 cd7 ct7
    f__three_rights := f8
    d__three_rights := PySem.W.fnOf "_three_rights" "_three_rights" (defArgs s__three_rights) (defBody s__three_rights) (defScope s__three_rights) .none kV8 dc8 pm8 an8 cd8 ct8
    f__named_rights := f9
    d__named_rights := PySem.W.fnOf "_named_rights" "_named_rights" (defArgs s__named_rights) (defBody s__named_rights) (defScope s__named_rights) .none kV9 dc9 pm9 an9 cd9 ct9
    f__keys_in_order := f10
    d__keys_in_order := PySem.W.fnOf "_keys_in_order" "_keys_in_order" (defArgs s__keys_in_order) (defBody s__keys_in_order) (defScope s__keys_in_order) .none kV10 dc10 pm10 an10 cd10 ct10
    f_cell := f14
    d_cell := PySem.W.fnOf "_law_cell" "_law_cell" (defArgs s_cell) (defBody s_cell) (defScope s_cell) .none kV14 dc14 pm14 an14 cd14 ct14
    f_bag := f15
    d_bag := PySem.W.fnOf "_law_bag" "_law_bag" (defArgs s_bag) (defBody s_bag) (defScope s_bag) .none kV15 dc15 pm15 an15 cd15 ct15
    f_take := f16
    d_take := PySem.W.fnOf "_law_take" "_law_take" (defArgs s_take) (defBody s_take) (defScope s_take) .none kV16 dc16 pm16 an16 cd16 ct16
    f_part := f17
    d_part := PySem.W.fnOf "_law_part" "_law_part" (defArgs s_part) (defBody s_part) (defScope s_part) .none kV17 dc17 pm17 an17 cd17 ct17
    f_odd := f18
    d_odd := PySem.W.fnOf "_law_odd" "_law_odd" (defArgs s_odd) (defBody s_odd) (defScope s_odd) .none kV18 dc18 pm18 an18 cd18 ct18
    f_opened := f19
    d_opened := PySem.W.fnOf "_law_opened" "_law_opened" (defArgs s_opened) (defBody s_opened) (defScope s_opened) .none kV19 dc19 pm19 an19 cd19 ct19
    f_tried := f20
    d_tried := PySem.W.fnOf "_law_tried" "_law_tried" (defArgs s_tried) (defBody s_tried) (defScope s_tried) .none kV20 dc20 pm20 an20 cd20 ct20
    f_shown := f21
    d_shown := PySem.W.fnOf "_law_shown" "_law_shown" (defArgs s_shown) (defBody s_shown) (defScope s_shown) .none kV21 dc21 pm21 an21 cd21 ct21
    f_law := fa
    d_law := PySem.W.fnOf "law" "law" (defArgs s_law) (defBody s_law) (defScope s_law) .none kV22 dc22 pm22 an22 cd22 ct22
    f_Rights___init__ := f23
    d_Rights___init__ := PySem.W.fnOf "__init__" "Rights.__init__" (defArgs s_Rights___init__) (defBody s_Rights___init__) (defScope s_Rights___init__) (.ref DT23) kV23 dc23 pm23 an23 cd23 ct23
    f_Rights_of := f24
    d_Rights_of := PySem.W.fnOf "of" "Rights.of" (defArgs s_Rights_of) (defBody s_Rights_of) (defScope s_Rights_of) .none kV24 dc24 pm24 an24 cd24 ct24
    P_Rights_of := P24
    f_Rights_from_digit := f25
    d_Rights_from_digit := PySem.W.fnOf "from_digit" "Rights.from_digit" (defArgs s_Rights_from_digit) (defBody s_Rights_from_digit) (defScope s_Rights_from_digit) .none kV25 dc25 pm25 an25 cd25 ct25
    P_Rights_from_digit := P25
    f_Rights_digit := f26
    d_Rights_digit := PySem.W.fnOf "digit" "Rights.digit" (defArgs s_Rights_digit) (defBody s_Rights_digit) (defScope s_Rights_digit) .none kV26 dc26 pm26 an26 cd26 ct26
    P_Rights_digit := P26
    f_Rights___or__ := f29
    d_Rights___or__ := PySem.W.fnOf "__or__" "Rights.__or__" (defArgs s_Rights___or__) (defBody s_Rights___or__) (defScope s_Rights___or__) .none kV29 dc29 pm29 an29 cd29 ct29
    f_Rights___eq__ := f34
    d_Rights___eq__ := PySem.W.fnOf "__eq__" "Rights.__eq__" (defArgs s_Rights___eq__) (defBody s_Rights___eq__) (defScope s_Rights___eq__) .none kV34 dc34 pm34 an34 cd34 ct34
    f_AccessList___init__ := f40
    d_AccessList___init__ := PySem.W.fnOf "__init__" "AccessList.__init__" (defArgs s_AccessList___init__) (defBody s_AccessList___init__) (defScope s_AccessList___init__) .none (.ref D40) dc40 pm40 an40 cd40 ct40
    f_AccessList__first_mask := f41
    d_AccessList__first_mask := PySem.W.fnOf "_first_mask" "AccessList._first_mask" (defArgs s_AccessList__first_mask) (defBody s_AccessList__first_mask) (defScope s_AccessList__first_mask) .none kV41 dc41 pm41 an41 cd41 ct41
    f_AccessList_plain := f42
    d_AccessList_plain := PySem.W.fnOf "plain" "AccessList.plain" (defArgs s_AccessList_plain) (defBody s_AccessList_plain) (defScope s_AccessList_plain) .none kV42 dc42 pm42 an42 cd42 ct42
    P_AccessList_plain := P42
    f_AccessList_entries := f53
    d_AccessList_entries := PySem.W.fnOf "entries" "AccessList.entries" (defArgs s_AccessList_entries) (defBody s_AccessList_entries) (defScope s_AccessList_entries) .none kV53 dc53 pm53 an53 cd53 ct53
    f_AccessList___eq__ := f60
    d_AccessList___eq__ := PySem.W.fnOf "__eq__" "AccessList.__eq__" (defArgs s_AccessList___eq__) (defBody s_AccessList___eq__) (defScope s_AccessList___eq__) .none kV60 dc60 pm60 an60 cd60 ct60
    f_Start___init__ := f64
    d_Start___init__ := PySem.W.fnOf "__init__" "Start.__init__" (defArgs s_Start___init__) (defBody s_Start___init__) (defScope s_Start___init__) .none (.ref D64) dc64 pm64 an64 cd64 ct64
    f_Start_default := f65
    d_Start_default := PySem.W.fnOf "default" "Start.default" (defArgs s_Start_default) (defBody s_Start_default) (defScope s_Start_default) .none kV65 dc65 pm65 an65 cd65 ct65
    P_Start_default := P65
    f_Start_group := f66
    d_Start_group := PySem.W.fnOf "group" "Start.group" (defArgs s_Start_group) (defBody s_Start_group) (defScope s_Start_group) .none kV66 dc66 pm66 an66 cd66 ct66
    P_Start_group := P66
    f_Start_passes := f67
    d_Start_passes := PySem.W.fnOf "passes" "Start.passes" (defArgs s_Start_passes) (defBody s_Start_passes) (defScope s_Start_passes) .none kV67 dc67 pm67 an67 cd67 ct67
    P_Start_passes := P67
    f_Start_umask := f68
    d_Start_umask := PySem.W.fnOf "umask" "Start.umask" (defArgs s_Start_umask) (defBody s_Start_umask) (defScope s_Start_umask) .none kV68 dc68 pm68 an68 cd68 ct68
    P_Start_umask := P68
    f_Start__told := f69
    d_Start__told := PySem.W.fnOf "_told" "Start._told" (defArgs s_Start__told) (defBody s_Start__told) (defScope s_Start__told) .none kV69 dc69 pm69 an69 cd69 ct69
    f_Start___eq__ := f70
    d_Start___eq__ := PySem.W.fnOf "__eq__" "Start.__eq__" (defArgs s_Start___eq__) (defBody s_Start___eq__) (defScope s_Start___eq__) .none kV70 dc70 pm70 an70 cd70 ct70
    C_RightsError := K0
    C_MissingError := K1
    C_InvalidList := K2
    C_InvalidName := K3
    C_InvalidNode := K4
    C_InvalidDigits := K5
    I_InvalidList := J2
    I_InvalidName := J3
    I_InvalidNode := J4
    I_InvalidDigits := J5
    K_DIGITS := KD3
    K_WORDS := KD4
    K_PLAIN_KINDS := KD6
    K_NAMED_KINDS := KD7
    K_KIND_SIGNS := KD8 }
  have T : Txt w K mg A := {
    cr_Rights := ⟨ord0, org0⟩
    gC_Rights := PySem.W.mg_of X G oa0
    c_Rights := ⟨_, PySem.W.mg_of X G oa0, rfl⟩
    cl_Rights := ⟨opg0, ohd0, opo0, osa0⟩
    in_Rights := ⟨⟨opg0, ohd0, opo0, osa0⟩, oca0, ocn0, oct0, ocm0, by unfold PySem.W.kitOne; simp⟩
    sf_Rights := osf0
    cd_Rights := ⟨_, ocd0, omr0⟩
    ne_Rights := one0
    na_Rights__digit := ona_digit0
    nf_Rights_NoneType := onfNoneType0
    nf_Rights_bool := onfbool0
    nf_Rights_int := onfint0
    nf_Rights_str := onfstr0
    nf_Rights_list := onflist0
    nf_Rights_tuple := onftuple0
    nf_Rights_dict := onfdict0
    kt_Rights_NoneType := kit_ofT oic0 oyt0 oktNoneType0
    kt_Rights_bool := kit_ofT oic0 oyt0 oktbool0
    kt_Rights_int := kit_ofT oic0 oyt0 oktint0
    kt_Rights_str := kit_ofT oic0 oyt0 oktstr0
    kt_Rights_list := kit_ofT oic0 oyt0 oktlist0
    kt_Rights_tuple := kit_ofT oic0 oyt0 okttuple0
    kt_Rights_dict := kit_ofT oic0 oyt0 oktdict0
    sb_Rights_NoneType := oktNoneType0
    sb_Rights_bool := oktbool0
    sb_Rights_int := oktint0
    sb_Rights_str := oktstr0
    sb_Rights_list := oktlist0
    sb_Rights_tuple := okttuple0
    sb_Rights_dict := oktdict0
    cr_AccessList := ⟨ord1, org1⟩
    gC_AccessList := PySem.W.mg_of X G oa1
    c_AccessList := ⟨_, PySem.W.mg_of X G oa1, rfl⟩
    cl_AccessList := ⟨opg1, ohd1, opo1, osa1⟩
    in_AccessList := ⟨⟨opg1, ohd1, opo1, osa1⟩, oca1, ocn1, oct1, ocm1, by unfold PySem.W.kitOne; simp⟩
    sf_AccessList := osf1
    cd_AccessList := ⟨_, ocd1, omr1⟩
    ne_AccessList := one1
    na_AccessList__owner := ona_owner1
    na_AccessList__group := ona_group1
    na_AccessList__other := ona_other1
    na_AccessList__users := ona_users1
    na_AccessList__groups := ona_groups1
    na_AccessList__mask := ona_mask1
    nf_AccessList_NoneType := onfNoneType1
    nf_AccessList_bool := onfbool1
    nf_AccessList_int := onfint1
    nf_AccessList_str := onfstr1
    nf_AccessList_list := onflist1
    nf_AccessList_tuple := onftuple1
    nf_AccessList_dict := onfdict1
    kt_AccessList_NoneType := kit_ofT oic1 oyt1 oktNoneType1
    kt_AccessList_bool := kit_ofT oic1 oyt1 oktbool1
    kt_AccessList_int := kit_ofT oic1 oyt1 oktint1
    kt_AccessList_str := kit_ofT oic1 oyt1 oktstr1
    kt_AccessList_list := kit_ofT oic1 oyt1 oktlist1
    kt_AccessList_tuple := kit_ofT oic1 oyt1 okttuple1
    kt_AccessList_dict := kit_ofT oic1 oyt1 oktdict1
    sb_AccessList_NoneType := oktNoneType1
    sb_AccessList_bool := oktbool1
    sb_AccessList_int := oktint1
    sb_AccessList_str := oktstr1
    sb_AccessList_list := oktlist1
    sb_AccessList_tuple := okttuple1
    sb_AccessList_dict := oktdict1
    cr_Start := ⟨ord2, org2⟩
    gC_Start := PySem.W.mg_of X G oa2
    c_Start := ⟨_, PySem.W.mg_of X G oa2, rfl⟩
    cl_Start := ⟨opg2, ohd2, opo2, osa2⟩
    in_Start := ⟨⟨opg2, ohd2, opo2, osa2⟩, oca2, ocn2, oct2, ocm2, by unfold PySem.W.kitOne; simp⟩
    sf_Start := osf2
    cd_Start := ⟨_, ocd2, omr2⟩
    ne_Start := one2
    na_Start__default := ona_default2
    na_Start__group := ona_group2
    na_Start__passes := ona_passes2
    na_Start__umask := ona_umask2
    nf_Start_NoneType := onfNoneType2
    nf_Start_bool := onfbool2
    nf_Start_int := onfint2
    nf_Start_str := onfstr2
    nf_Start_list := onflist2
    nf_Start_tuple := onftuple2
    nf_Start_dict := onfdict2
    kt_Start_NoneType := kit_ofT oic2 oyt2 oktNoneType2
    kt_Start_bool := kit_ofT oic2 oyt2 oktbool2
    kt_Start_int := kit_ofT oic2 oyt2 oktint2
    kt_Start_str := kit_ofT oic2 oyt2 oktstr2
    kt_Start_list := kit_ofT oic2 oyt2 oktlist2
    kt_Start_tuple := kit_ofT oic2 oyt2 okttuple2
    kt_Start_dict := kit_ofT oic2 oyt2 oktdict2
    sb_Start_NoneType := oktNoneType2
    sb_Start_bool := oktbool2
    sb_Start_int := oktint2
    sb_Start_str := oktstr2
    sb_Start_list := oktlist2
    sb_Start_tuple := okttuple2
    sb_Start_dict := oktdict2
    F__wall := fun_mk l0 c0 k0
    B__wall := (fun_mk (st := s__wall) l0 c0 k0).binds (ps := ["k"]) fun _ _ _ _ _ _ us hl => match us, hl with | [_], _ => rfl
    g__wall := PySem.W.mg_of X G a0
    F_is_integer := fun_mk l1 c1 k1
    B_is_integer := (fun_mk (st := s_is_integer) l1 c1 k1).binds (ps := ["value", "low", "high"]) fun _ _ _ _ _ _ us hl => match us, hl with | [_, _, _], _ => rfl
    g_is_integer := PySem.W.mg_of X G a1
    F_is_name := fun_mk l2 c2 k2
    B_is_name := (fun_mk (st := s_is_name) l2 c2 k2).binds (ps := ["value"]) fun _ _ _ _ _ _ us hl => match us, hl with | [_], _ => rfl
    g_is_name := PySem.W.mg_of X G a2
    F_is_user_name := fun_mk l3 c3 k3
    B_is_user_name := (fun_mk (st := s_is_user_name) l3 c3 k3).binds (ps := ["value"]) fun _ _ _ _ _ _ us hl => match us, hl with | [_], _ => rfl
    g_is_user_name := PySem.W.mg_of X G a3
    F_as_rights := fun_mk l4 c4 k4
    B_as_rights := (fun_mk (st := s_as_rights) l4 c4 k4).binds (ps := ["value"]) fun _ _ _ _ _ _ us hl => match us, hl with | [_], _ => rfl
    g_as_rights := PySem.W.mg_of X G a4
    F__is_letters := fun_mk l5 c5 k5
    B__is_letters := (fun_mk (st := s__is_letters) l5 c5 k5).binds (ps := ["value"]) fun _ _ _ _ _ _ us hl => match us, hl with | [_], _ => rfl
    g__is_letters := PySem.W.mg_of X G a5
    F__digit_of := fun_mk l6 c6 k6
    B__digit_of := (fun_mk (st := s__digit_of) l6 c6 k6).binds (ps := ["value"]) fun _ _ _ _ _ _ us hl => match us, hl with | [_], _ => rfl
    g__digit_of := PySem.W.mg_of X G a6
    F_is_digits := fun_mk l7 c7 k7
    B_is_digits := (fun_mk (st := s_is_digits) l7 c7 k7).binds (ps := ["value"]) fun _ _ _ _ _ _ us hl => match us, hl with | [_], _ => rfl
    g_is_digits := PySem.W.mg_of X G a7
    F__three_rights := fun_mk l8 c8 k8
    B__three_rights := (fun_mk (st := s__three_rights) l8 c8 k8).binds (ps := ["digits"]) fun _ _ _ _ _ _ us hl => match us, hl with | [_], _ => rfl
    g__three_rights := PySem.W.mg_of X G a8
    F__named_rights := fun_mk l9 c9 k9
    B__named_rights := (fun_mk (st := s__named_rights) l9 c9 k9).binds (ps := ["value"]) fun _ _ _ _ _ _ us hl => match us, hl with | [_], _ => rfl
    g__named_rights := PySem.W.mg_of X G a9
    F__keys_in_order := fun_mk l10 c10 k10
    B__keys_in_order := (fun_mk (st := s__keys_in_order) l10 c10 k10).binds (ps := ["value"]) fun _ _ _ _ _ _ us hl => match us, hl with | [_], _ => rfl
    g__keys_in_order := PySem.W.mg_of X G a10
    F_cell := fun_mk l14 c14 k14
    B_cell := (fun_mk (st := s_cell) l14 c14 k14).binds (ps := ["_law_script", "_law_k"]) fun _ _ _ _ _ _ us hl => match us, hl with | [_, _], _ => rfl
    g_cell := PySem.W.mg_of X G a14
    F_bag := fun_mk l15 c15 k15
    B_bag := (fun_mk (st := s_bag) l15 c15 k15).binds (ps := ["_law_number"]) fun _ _ _ _ _ _ us hl => match us, hl with | [_], _ => rfl
    g_bag := PySem.W.mg_of X G a15
    F_take := fun_mk l16 c16 k16
    B_take := (fun_mk (st := s_take) l16 c16 k16).binds (ps := ["_law_bag_here", "_law_count"]) fun _ _ _ _ _ _ us hl => match us, hl with | [_, _], _ => rfl
    g_take := PySem.W.mg_of X G a16
    F_part := fun_mk l17 c17 k17
    B_part := (fun_mk (st := s_part) l17 c17 k17).binds (ps := ["_law_bag_here", "_law_at"]) fun _ _ _ _ _ _ us hl => match us, hl with | [_, _], _ => rfl
    g_part := PySem.W.mg_of X G a17
    F_odd := fun_mk l18 c18 k18
    B_odd := (fun_mk (st := s_odd) l18 c18 k18).binds (ps := ["_law_bag_here", "_law_at"]) fun _ _ _ _ _ _ us hl => match us, hl with | [_, _], _ => rfl
    g_odd := PySem.W.mg_of X G a18
    F_opened := fun_mk l19 c19 k19
    B_opened := (fun_mk (st := s_opened) l19 c19 k19).binds (ps := ["_law_parts", "_law_way"]) fun _ _ _ _ _ _ us hl => match us, hl with | [_, _], _ => rfl
    g_opened := PySem.W.mg_of X G a19
    F_tried := fun_mk l20 c20 k20
    B_tried := (fun_mk (st := s_tried) l20 c20 k20).binds (ps := ["_law_parts"]) fun _ _ _ _ _ _ us hl => match us, hl with | [_], _ => rfl
    g_tried := PySem.W.mg_of X G a20
    F_shown := fun_mk l21 c21 k21
    B_shown := (fun_mk (st := s_shown) l21 c21 k21).binds (ps := ["_law_start"]) fun _ _ _ _ _ _ us hl => match us, hl with | [_], _ => rfl
    g_shown := PySem.W.mg_of X G a21
    F_law := fun_mk l22 c22 k22
    B_law := (fun_mk (st := s_law) l22 c22 k22).binds (ps := ["_law_script"]) fun _ _ _ _ _ _ us hl => match us, hl with | [_], _ => rfl
    g_law := PySem.W.mg_of X G a22
    F_Rights___init__ := ⟨⟨oc23, od23, .ref DT23, kV23, dc23, pm23, an23, cd23, ct23, sl23, rfl, l23, c23, .inr ⟨by simp, DT23, dto23, dti23, dtn23, rfl, dl23, dd23, dv23⟩, .inl rfl⟩, k23⟩
    me_Rights___init__ := ⟨a23, t23, k23⟩
    mk_Rights := ⟨omk0, a23, t23, okc0⟩
    F_Rights_of := fun_mk l24 c24 k24
    cm_Rights_of := ⟨a24, ⟨_, px24⟩, pf24⟩
    F_Rights_from_digit := fun_mk l25 c25 k25
    B_Rights_from_digit := (fun_mk (st := s_Rights_from_digit) l25 c25 k25).binds (ps := ["cls", "digit"]) fun _ _ _ _ _ _ us hl => match us, hl with | [_, _], _ => rfl
    cm_Rights_from_digit := ⟨a25, ⟨_, px25⟩, pf25⟩
    F_Rights_digit := fun_mk l26 c26 k26
    B_Rights_digit := (fun_mk (st := s_Rights_digit) l26 c26 k26).binds (ps := ["self"]) fun _ _ _ _ _ _ us hl => match us, hl with | [_], _ => rfl
    pr_Rights_digit := ⟨a26, pg26, pt26, _, px26⟩
    F_Rights___or__ := fun_mk l29 c29 k29
    B_Rights___or__ := (fun_mk (st := s_Rights___or__) l29 c29 k29).binds (ps := ["self", "other"]) fun _ _ _ _ _ _ us hl => match us, hl with | [_, _], _ => rfl
    me_Rights___or__ := ⟨a29, t29, k29⟩
    F_Rights___eq__ := fun_mk l34 c34 k34
    B_Rights___eq__ := (fun_mk (st := s_Rights___eq__) l34 c34 k34).binds (ps := ["self", "other"]) fun _ _ _ _ _ _ us hl => match us, hl with | [_, _], _ => rfl
    me_Rights___eq__ := ⟨a34, t34, k34⟩
    F_AccessList___init__ := ⟨⟨oc40, od40, .none, .ref D40, dc40, pm40, an40, cd40, ct40, sl40, rfl, l40, c40, .inl ⟨rfl, rfl⟩, .inr ⟨D40, rfl, (List.forall_mem_cons.mpr ⟨⟨_, w40_0, rfl⟩, (List.forall_mem_cons.mpr ⟨⟨_, w40_1, rfl⟩, (List.forall_mem_cons.mpr ⟨⟨_, w40_2, rfl⟩, (fun _ h => by simp at h)⟩)⟩)⟩)⟩⟩, k40⟩
    me_AccessList___init__ := ⟨a40, t40, k40⟩
    mk_AccessList := ⟨omk1, a40, t40, okc1⟩
    F_AccessList__first_mask := fun_mk l41 c41 k41
    B_AccessList__first_mask := (fun_mk (st := s_AccessList__first_mask) l41 c41 k41).binds (ps := ["self"]) fun _ _ _ _ _ _ us hl => match us, hl with | [_], _ => rfl
    me_AccessList__first_mask := ⟨a41, t41, k41⟩
    F_AccessList_plain := fun_mk l42 c42 k42
    B_AccessList_plain := (fun_mk (st := s_AccessList_plain) l42 c42 k42).binds (ps := ["cls", "digits"]) fun _ _ _ _ _ _ us hl => match us, hl with | [_, _], _ => rfl
    cm_AccessList_plain := ⟨a42, ⟨_, px42⟩, pf42⟩
    F_AccessList_entries := fun_mk l53 c53 k53
    B_AccessList_entries := (fun_mk (st := s_AccessList_entries) l53 c53 k53).binds (ps := ["self"]) fun _ _ _ _ _ _ us hl => match us, hl with | [_], _ => rfl
    me_AccessList_entries := ⟨a53, t53, k53⟩
    F_AccessList___eq__ := fun_mk l60 c60 k60
    B_AccessList___eq__ := (fun_mk (st := s_AccessList___eq__) l60 c60 k60).binds (ps := ["self", "other"]) fun _ _ _ _ _ _ us hl => match us, hl with | [_, _], _ => rfl
    me_AccessList___eq__ := ⟨a60, t60, k60⟩
    F_Start___init__ := ⟨⟨oc64, od64, .none, .ref D64, dc64, pm64, an64, cd64, ct64, sl64, rfl, l64, c64, .inl ⟨rfl, rfl⟩, .inr ⟨D64, rfl, (List.forall_mem_cons.mpr ⟨⟨_, w64_0, rfl⟩, (List.forall_mem_cons.mpr ⟨⟨_, w64_1, _, rfl⟩, (List.forall_mem_cons.mpr ⟨⟨_, w64_2, rfl⟩, (List.forall_mem_cons.mpr ⟨⟨_, w64_3, _, rfl⟩, (fun _ h => by simp at h)⟩)⟩)⟩)⟩)⟩⟩, k64⟩
    me_Start___init__ := ⟨a64, t64, k64⟩
    mk_Start := ⟨omk2, a64, t64, okc2⟩
    F_Start_default := fun_mk l65 c65 k65
    B_Start_default := (fun_mk (st := s_Start_default) l65 c65 k65).binds (ps := ["self"]) fun _ _ _ _ _ _ us hl => match us, hl with | [_], _ => rfl
    pr_Start_default := ⟨a65, pg65, pt65, _, px65⟩
    F_Start_group := fun_mk l66 c66 k66
    B_Start_group := (fun_mk (st := s_Start_group) l66 c66 k66).binds (ps := ["self"]) fun _ _ _ _ _ _ us hl => match us, hl with | [_], _ => rfl
    pr_Start_group := ⟨a66, pg66, pt66, _, px66⟩
    F_Start_passes := fun_mk l67 c67 k67
    B_Start_passes := (fun_mk (st := s_Start_passes) l67 c67 k67).binds (ps := ["self"]) fun _ _ _ _ _ _ us hl => match us, hl with | [_], _ => rfl
    pr_Start_passes := ⟨a67, pg67, pt67, _, px67⟩
    F_Start_umask := fun_mk l68 c68 k68
    B_Start_umask := (fun_mk (st := s_Start_umask) l68 c68 k68).binds (ps := ["self"]) fun _ _ _ _ _ _ us hl => match us, hl with | [_], _ => rfl
    pr_Start_umask := ⟨a68, pg68, pt68, _, px68⟩
    F_Start__told := fun_mk l69 c69 k69
    B_Start__told := (fun_mk (st := s_Start__told) l69 c69 k69).binds (ps := ["self"]) fun _ _ _ _ _ _ us hl => match us, hl with | [_], _ => rfl
    me_Start__told := ⟨a69, t69, k69⟩
    F_Start___eq__ := fun_mk l70 c70 k70
    B_Start___eq__ := (fun_mk (st := s_Start___eq__) l70 c70 k70).binds (ps := ["self", "other"]) fun _ _ _ _ _ _ us hl => match us, hl with | [_, _], _ => rfl
    me_Start___eq__ := ⟨a70, t70, k70⟩
    c_RightsError := ⟨_, PySem.W.mg_of X G ka0, rfl⟩
    c_MissingError := ⟨_, PySem.W.mg_of X G ka1, rfl⟩
    c_InvalidList := ⟨_, PySem.W.mg_of X G ka2, rfl⟩
    c_InvalidName := ⟨_, PySem.W.mg_of X G ka3, rfl⟩
    c_InvalidNode := ⟨_, PySem.W.mg_of X G ka4, rfl⟩
    c_InvalidDigits := ⟨_, PySem.W.mg_of X G ka5, rfl⟩
    low_InvalidList := { gC := PySem.W.mg_of X G ka2, cls := ⟨_, _, _, _, _, _, _, _, _, _, _, _, _, _, _, xl2, rfl⟩, sa := sa2, ga := ga2, gg := gg2, noN := nb2, iC := in2, tC := ti2, kC := kc2, exC := eb2, tyC := yt2, hdC := hd2, te := exm_of eb2 ic2 yt2 sc2, fn := ⟨_, _, _, _, _, _, _, _, _, _, _, _, _, _, li2, ci2⟩ }
    ec_InvalidList := ⟨ga2, gg2, eb2, hd2, ca2, cn2, xt2, cm2⟩
    low_InvalidName := { gC := PySem.W.mg_of X G ka3, cls := ⟨_, _, _, _, _, _, _, _, _, _, _, _, _, _, _, xl3, rfl⟩, sa := sa3, ga := ga3, gg := gg3, noN := nb3, iC := in3, tC := ti3, kC := kc3, exC := eb3, tyC := yt3, hdC := hd3, te := exm_of eb3 ic3 yt3 sc3, fn := ⟨_, _, _, _, _, _, _, _, _, _, _, _, _, _, li3, ci3⟩ }
    ec_InvalidName := ⟨ga3, gg3, eb3, hd3, ca3, cn3, xt3, cm3⟩
    low_InvalidNode := { gC := PySem.W.mg_of X G ka4, cls := ⟨_, _, _, _, _, _, _, _, _, _, _, _, _, _, _, xl4, rfl⟩, sa := sa4, ga := ga4, gg := gg4, noN := nb4, iC := in4, tC := ti4, kC := kc4, exC := eb4, tyC := yt4, hdC := hd4, te := exm_of eb4 ic4 yt4 sc4, fn := ⟨_, _, _, _, _, _, _, _, _, _, _, _, _, _, li4, ci4⟩ }
    ec_InvalidNode := ⟨ga4, gg4, eb4, hd4, ca4, cn4, xt4, cm4⟩
    low_InvalidDigits := { gC := PySem.W.mg_of X G ka5, cls := ⟨_, _, _, _, _, _, _, _, _, _, _, _, _, _, _, xl5, rfl⟩, sa := sa5, ga := ga5, gg := gg5, noN := nb5, iC := in5, tC := ti5, kC := kc5, exC := eb5, tyC := yt5, hdC := hd5, te := exm_of eb5 ic5 yt5 sc5, fn := ⟨_, _, _, _, _, _, _, _, _, _, _, _, _, _, li5, ci5⟩ }
    ec_InvalidDigits := ⟨ga5, gg5, eb5, hd5, ca5, cn5, xt5, cm5⟩
    kit_InvalidList_RightsError := kit_of sc2 ic0 yt0 kit_InvalidList_RightsError
    kit_InvalidName_RightsError := kit_of sc3 ic0 yt0 kit_InvalidName_RightsError
    kit_InvalidNode_RightsError := kit_of sc4 ic0 yt0 kit_InvalidNode_RightsError
    kit_InvalidDigits_RightsError := kit_of sc5 ic0 yt0 kit_InvalidDigits_RightsError
    kit_InvalidNode_MissingError := kit_of sc4 ic1 yt1 kit_InvalidNode_MissingError
    exm_InvalidName_InvalidList := exm_of eb2 ic2 yt2 exm_InvalidName_InvalidList
    exm_InvalidNode_InvalidList := exm_of eb2 ic2 yt2 exm_InvalidNode_InvalidList
    exm_InvalidNode_InvalidName := exm_of eb3 ic3 yt3 exm_InvalidNode_InvalidName
    exm_InvalidDigits_InvalidList := exm_of eb2 ic2 yt2 exm_InvalidDigits_InvalidList
    exm_InvalidDigits_InvalidName := exm_of eb3 ic3 yt3 exm_InvalidDigits_InvalidName
    exm_InvalidDigits_InvalidNode := exm_of eb4 ic4 yt4 exm_InvalidDigits_InvalidNode
    c_LONGEST_NAME := ⟨_, PySem.W.mg_of X G q0, _, rfl⟩
    c_LETTERS := ⟨_, PySem.W.mg_of X G q1, _, rfl⟩
    c_ALL_DIGIT := ⟨_, PySem.W.mg_of X G q2, _, rfl⟩
    c_DIGITS := ⟨_, PySem.W.mg_of X G q3, rfl⟩
    kd_DIGITS := ⟨_, _, kl3, ky3, ks3⟩
    ms_DIGITS := fun z hz => FR.ns_miss (ks := ["", "x", "w", "wx", "xw", "r", "rx", "xr", "rw", "wr", "rwx", "rxw", "wrx", "wxr", "xrw", "xwr"]) kl3 kq3 hz
    at_DIGITS_ := ⟨_, _, _, kl3, ky3, kv3_0, _, rfl⟩
    at_DIGITS_x := ⟨_, _, _, kl3, ky3, kv3_1, _, rfl⟩
    at_DIGITS_w := ⟨_, _, _, kl3, ky3, kv3_2, _, rfl⟩
    at_DIGITS_wx := ⟨_, _, _, kl3, ky3, kv3_3, _, rfl⟩
    at_DIGITS_xw := ⟨_, _, _, kl3, ky3, kv3_4, _, rfl⟩
    at_DIGITS_r := ⟨_, _, _, kl3, ky3, kv3_5, _, rfl⟩
    at_DIGITS_rx := ⟨_, _, _, kl3, ky3, kv3_6, _, rfl⟩
    at_DIGITS_xr := ⟨_, _, _, kl3, ky3, kv3_7, _, rfl⟩
    at_DIGITS_rw := ⟨_, _, _, kl3, ky3, kv3_8, _, rfl⟩
    at_DIGITS_wr := ⟨_, _, _, kl3, ky3, kv3_9, _, rfl⟩
    at_DIGITS_rwx := ⟨_, _, _, kl3, ky3, kv3_10, _, rfl⟩
    at_DIGITS_rxw := ⟨_, _, _, kl3, ky3, kv3_11, _, rfl⟩
    at_DIGITS_wrx := ⟨_, _, _, kl3, ky3, kv3_12, _, rfl⟩
    at_DIGITS_wxr := ⟨_, _, _, kl3, ky3, kv3_13, _, rfl⟩
    at_DIGITS_xrw := ⟨_, _, _, kl3, ky3, kv3_14, _, rfl⟩
    at_DIGITS_xwr := ⟨_, _, _, kl3, ky3, kv3_15, _, rfl⟩
    c_WORDS := ⟨_, PySem.W.mg_of X G q4, rfl⟩
    tu_WORDS := ⟨_, _, _, kl4, ku4, kd4, kz4, kv4⟩
    c_MOST_NAMED := ⟨_, PySem.W.mg_of X G q5, _, rfl⟩
    c_PLAIN_KINDS := ⟨_, PySem.W.mg_of X G q6, rfl⟩
    tu_PLAIN_KINDS := ⟨_, _, _, kl6, ku6, kd6, kz6, kv6⟩
    c_NAMED_KINDS := ⟨_, PySem.W.mg_of X G q7, rfl⟩
    tu_NAMED_KINDS := ⟨_, _, _, kl7, ku7, kd7, kz7, kv7⟩
    c_KIND_SIGNS := ⟨_, PySem.W.mg_of X G q8, rfl⟩
    kd_KIND_SIGNS := ⟨_, _, kl8, ky8, ks8⟩
    ms_KIND_SIGNS := fun z hz => FR.ns_miss (ks := ["owner", "user", "group", "named", "mask", "other"]) kl8 kq8 hz
    at_KIND_SIGNS_owner := ⟨_, _, _, kl8, ky8, kv8_0, _, rfl⟩
    at_KIND_SIGNS_user := ⟨_, _, _, kl8, ky8, kv8_1, _, rfl⟩
    at_KIND_SIGNS_group := ⟨_, _, _, kl8, ky8, kv8_2, _, rfl⟩
    at_KIND_SIGNS_named := ⟨_, _, _, kl8, ky8, kv8_3, _, rfl⟩
    at_KIND_SIGNS_mask := ⟨_, _, _, kl8, ky8, kv8_4, _, rfl⟩
    at_KIND_SIGNS_other := ⟨_, _, _, kl8, ky8, kv8_5, _, rfl⟩
    b_all := PySem.W.mg_none_of X G z0
    b_bool := PySem.W.mg_none_of X G z1
    b_dict := PySem.W.mg_none_of X G z2
    b_int := PySem.W.mg_none_of X G z3
    b_isinstance := PySem.W.mg_none_of X G z4
    b_len := PySem.W.mg_none_of X G z5
    b_list := PySem.W.mg_none_of X G z6
    b_max := PySem.W.mg_none_of X G z7
    b_min := PySem.W.mg_none_of X G z8
    b_range := PySem.W.mg_none_of X G z9
    b_repr := PySem.W.mg_none_of X G z10
    b_sorted := PySem.W.mg_none_of X G z11
    b_str := PySem.W.mg_none_of X G z12 }
  exact fun base _ _ => ok_law T
end K51
namespace PySem.W.Fast
theorem tw12592926952415595202 : True := .intro
theorem tw17226215709633569046 : True := .intro
theorem tw16246599203497200914 : True := .intro
theorem tw1554198099719232631 : True := .intro
theorem tw4925048073005799691 : True := .intro
theorem tw3839691367510500366 : True := .intro
theorem tw5573927789542291717 : True := .intro
theorem tw9507755511450472706 : True := .intro
theorem tw17179611435816595982 : True := .intro
theorem tw16524419370033069790 : True := .intro
theorem tw10714676627715661376 : True := .intro
theorem tw1613212432057037334 : True := .intro
theorem tw16720492087230458090 : True := .intro
theorem tw1906123180849526227 : True := .intro
theorem tw3876378573068330539 : True := .intro
theorem tw14095417830092540491 : True := .intro
theorem tw7937597266985576 : True := .intro
theorem tw15885219362673818575 : True := .intro
theorem tw6937643724170499123 : True := .intro
theorem tw4507912739625331861 : True := .intro
theorem tw7811215377703927249 : True := .intro
theorem tw16035573096670811073 : True := .intro
theorem tw807443889409095519 : True := .intro
theorem tw9188859772418000144 : True := .intro
theorem tw16562640465124620051 : True := .intro
theorem tw8697303676088558819 : True := .intro
theorem tw7624516873567716420 : True := .intro
theorem tw1101072070099254054 : True := .intro
theorem tw4907762615813029066 : True := .intro
theorem tw9844016383495539946 : True := .intro
theorem tw17094554605868762231 : True := .intro
theorem tw3051990321575547554 : True := .intro
theorem tw18379208048417755390 : True := .intro
theorem tw3245931548013812012 : True := .intro
theorem tw5492481408576814607 : True := .intro
theorem tw10948428476475112304 : True := .intro
theorem tw1181921781122398852 : True := .intro
theorem tw4129391049609836599 : True := .intro
theorem tw1125297233152438107 : True := .intro
theorem tw6357905226491021987 : True := .intro
theorem tw4576183122266098623 : True := .intro
theorem tw6148673538733304182 : True := .intro
theorem tw3042746572520583481 : True := .intro
theorem tw11133700170791396126 : True := .intro
theorem tw8700088807441143397 : True := .intro
theorem tw9934068751806883186 : True := .intro
theorem tw17153486381115840475 : True := .intro
theorem tw2625376965317275312 : True := .intro
theorem tw5855271897620875414 : True := .intro
theorem tw8492401795899052460 : True := .intro
theorem tw18026262764786035242 : True := .intro
theorem tw17017755095601454295 : True := .intro
theorem tw8691009397865926982 : True := .intro
theorem tw14611747930913316417 : True := .intro
theorem tw14700047770774039306 : True := .intro
theorem tw10696041142803982949 : True := .intro
theorem tw8252850180014407023 : True := .intro
theorem tw16419557591839484146 : True := .intro
theorem tw9474698321475378463 : True := .intro
theorem tw12180200417739389553 : True := .intro
theorem tw5815914289350258226 : True := .intro
theorem tw10863119101033972288 : True := .intro
theorem tw2357181007458317144 : True := .intro
theorem tw8446129813469530177 : True := .intro
theorem tw11408009546611013571 : True := .intro
theorem tw4346122529487290967 : True := .intro
theorem tw1232860002540072422 : True := .intro
theorem tw15758033883878685812 : True := .intro
theorem tw1324485498026926980 : True := .intro
theorem tw6857966344066562030 : True := .intro
theorem tw3702742120078186503 : True := .intro
theorem tw17156190877463585877 : True := .intro
theorem tw9182142080569235424 : True := .intro
theorem tw17917455465132866383 : True := .intro
theorem tw8939864649889151425 : True := .intro
theorem tw15550157334314119595 : True := .intro
theorem tw10181085290240545548 : True := .intro
theorem tw654611972334515186 : True := .intro
theorem tw565991122242251969 : True := .intro
theorem tw16771021115896892894 : True := .intro
theorem tw6815837578123855427 : True := .intro
theorem tw3547087783110842001 : True := .intro
theorem tw6892366482754321932 : True := .intro
theorem tw15967022069930849674 : True := .intro
theorem tw9035867300546752171 : True := .intro
theorem tw4192073435869977478 : True := .intro
theorem tw18401294915333655183 : True := .intro
theorem tw8889327360374186823 : True := .intro
theorem tw17447134435333403649 : True := .intro
theorem tw1098475363193270686 : True := .intro
theorem tw6784246460002187998 : True := .intro
theorem tw16920006097130108092 : True := .intro
theorem tw13068106487052257894 : True := .intro
theorem tw12562881404402773471 : True := .intro
theorem tw6854470255876969857 : True := .intro
theorem tw5055670048522602803 : True := .intro
theorem tw1472855159903479023 : True := .intro
theorem tw1387694229857042790 : True := .intro
theorem tw14136178805478579810 : True := .intro
theorem tw10438863911333541243 : True := .intro
theorem tw9482372641820202292 : True := .intro
theorem tw14695994886844866814 : True := .intro
theorem tw2787846509339603673 : True := .intro
theorem tw10320533284430061392 : True := .intro
theorem tw11283034204253430017 : True := .intro
theorem tw714171355427189314 : True := .intro
theorem tw9701846529784804430 : True := .intro
theorem tw3853047548800400103 : True := .intro
theorem tw14893891153367178117 : True := .intro
theorem tw6887124642695569582 : True := .intro
theorem tw12266722704359083132 : True := .intro
theorem tw11075214653523467337 : True := .intro
theorem tw12749870497927506886 : True := .intro
theorem tw574502948785726070 : True := .intro
theorem tw6234941054102983842 : True := .intro
theorem tw9494606585237647525 : True := .intro
theorem tw11728959289298630164 : True := .intro
theorem tw13151653903565425930 : True := .intro
theorem tw7967490003834507455 : True := .intro
theorem tw18145775660400569566 : True := .intro
theorem tw5455007100950007911 : True := .intro
theorem tw14549362273760225743 : True := .intro
theorem tw2844568006138245073 : True := .intro
theorem tw7720293140240660143 : True := .intro
theorem tw10556663997288742650 : True := .intro
theorem tw11718528400591922881 : True := .intro
theorem tw15208843847331379359 : True := .intro
theorem tw7154867639267303744 : True := .intro
theorem tw15560008829562722908 : True := .intro
theorem tw2295851899336253991 : True := .intro
theorem tw11808830139149502677 : True := .intro
theorem tw8438756279440049602 : True := .intro
theorem tw7914477629664888564 : True := .intro
theorem tw6773170236112310751 : True := .intro
theorem tw7259500960516387106 : True := .intro
theorem tw11601601398511536295 : True := .intro
theorem tw6420344894285775836 : True := .intro
theorem tw16158676675013336528 : True := .intro
theorem tw16298961691823194688 : True := .intro
theorem tw13203728101664246655 : True := .intro
theorem tw13134822835884709933 : True := .intro
theorem tw1713829859042555850 : True := .intro
theorem tw6311424564983043149 : True := .intro
theorem tw11663618567929304869 : True := .intro
theorem tw9799148308041901218 : True := .intro
theorem tw379771289594805290 : True := .intro
theorem tw13494731989975903738 : True := .intro
theorem tw16517623266069998702 : True := .intro
theorem tw15316330415128979162 : True := .intro
theorem tw11117998539715738023 : True := .intro
theorem tw9552929651741050039 : True := .intro
theorem tw11727644641209341146 : True := .intro
theorem tw16005621118670261535 : True := .intro
theorem tw15879331355779124704 : True := .intro
theorem tw4269300754017173532 : True := .intro
theorem tw7741380090261613327 : True := .intro
theorem tw223756006759876019 : True := .intro
theorem tw11402765721278626668 : True := .intro
theorem tw9552227285422041551 : True := .intro
theorem tw10729151803783514282 : True := .intro
theorem tw18374699027984805854 : True := .intro
theorem tw2916596014269102737 : True := .intro
theorem tw6173260564808480940 : True := .intro
theorem tw12821018519477999731 : True := .intro
theorem tw6488476930311727352 : True := .intro
theorem tw2797957009655904119 : True := .intro
theorem tw11550796899665140169 : True := .intro
theorem tw495347043814746115 : True := .intro
theorem tw15102743035711060741 : True := .intro
theorem tw18064868069074611280 : True := .intro
theorem tw16574371443980083889 : True := .intro
theorem tw14870518487860767988 : True := .intro
theorem tw14187061130966852825 : True := .intro
theorem tw13531418142764934637 : True := .intro
theorem tw5653942178459553697 : True := .intro
theorem tw12609757644983945963 : True := .intro
theorem tw2418641922705941154 : True := .intro
theorem tw5494227753108752057 : True := .intro
theorem tw7347885112657286075 : True := .intro
theorem tw2639645892689660944 : True := .intro
theorem tw3867142610458226228 : True := .intro
theorem tw14140046561321176112 : True := .intro
theorem tw382034213697920011 : True := .intro
theorem tw1148355682856999899 : True := .intro
theorem tw4430024093742764494 : True := .intro
theorem tw1964941342904375048 : True := .intro
theorem tw189022294332002715 : True := .intro
theorem tw10895640869742922878 : True := .intro
theorem tw5036683210889994257 : True := .intro
theorem tw6569958168034266589 : True := .intro
theorem tw248997594550628060 : True := .intro
theorem tw15511399935621273692 : True := .intro
theorem tw1159296418925470409 : True := .intro
theorem tw15662852391310027218 : True := .intro
theorem tw10729144407227515405 : True := .intro
theorem tw434806923099406225 : True := .intro
theorem tw2107746785038786970 : True := .intro
theorem tw10401093321153451225 : True := .intro
theorem tw10721695485986633322 : True := .intro
theorem tw12792042879410515835 : True := .intro
theorem tw15655468236582609327 : True := .intro
theorem tw16115973046829574779 : True := .intro
theorem tw14643470537906691965 : True := .intro
theorem tw4058214997640495413 : True := .intro
theorem tw2662228427955850812 : True := .intro
theorem tw4047011614652378804 : True := .intro
theorem tw12081461155631515004 : True := .intro
theorem tw11661942342553924009 : True := .intro
theorem tw12566682856708682646 : True := .intro
theorem tw11720877278429793023 : True := .intro
theorem tw17223932738052219090 : True := .intro
theorem tw2314683492995367555 : True := .intro
theorem tw17803442605216323477 : True := .intro
theorem tw18073570651394698449 : True := .intro
theorem tw17464559363638173808 : True := .intro
theorem tw16857726273032135176 : True := .intro
theorem tw13404023550285664649 : True := .intro
theorem tw16576314100547810935 : True := .intro
theorem tw6012596533391344561 : True := .intro
theorem tw18212438633164650181 : True := .intro
theorem tw6489127438470903416 : True := .intro
theorem tw13561785379942489727 : True := .intro
theorem tw16607193898434749336 : True := .intro
theorem tw7572038143201633510 : True := .intro
theorem tw10711889026644549672 : True := .intro
theorem tw3861897203250611611 : True := .intro
theorem tw17107329058244357101 : True := .intro
theorem tw11236691309534537413 : True := .intro
theorem tw10269012737029186562 : True := .intro
theorem tw9488863292498356386 : True := .intro
theorem tw9923942765181993020 : True := .intro
theorem tw454717577252570774 : True := .intro
theorem tw14772998373551846893 : True := .intro
theorem tw3632932527765533076 : True := .intro
theorem tw7868174526788604237 : True := .intro
theorem tw16206989675332674716 : True := .intro
theorem tw5032173957713692331 : True := .intro
theorem tw14682649387314265991 : True := .intro
theorem tw6902021328727675815 : True := .intro
theorem tw8003210213781244240 : True := .intro
theorem tw17824230591813055054 : True := .intro
theorem tw17701798128722634309 : True := .intro
theorem tw13398235491444231861 : True := .intro
theorem tw1856029798449423782 : True := .intro
theorem tw8884207040255100078 : True := .intro
theorem tw1026352320108326206 : True := .intro
theorem tw4476045491579604496 : True := .intro
theorem tw10267006159497125895 : True := .intro
theorem tw514624519714210488 : True := .intro
theorem tw9653473261266419620 : True := .intro
theorem tw2691851113566385742 : True := .intro
theorem tw10721576477762180932 : True := .intro
theorem tw2313392217735405660 : True := .intro
theorem tw8064613717106674218 : True := .intro
theorem tw16748494316840579175 : True := .intro
theorem tw12141824261657680033 : True := .intro
theorem tw1173814405350838715 : True := .intro
theorem tw18442716211848502023 : True := .intro
theorem tw6105727127948655552 : True := .intro
theorem tw17038561619622937052 : True := .intro
theorem tw8793054148071794919 : True := .intro
theorem tw5556763482343035620 : True := .intro
theorem tw15539906561773844264 : True := .intro
theorem tw17077277996725876952 : True := .intro
theorem tw3927916305229360007 : True := .intro
theorem tw915898447801507380 : True := .intro
theorem tw2906407094151898405 : True := .intro
theorem tw12184105465007630872 : True := .intro
theorem tw9515815913885941038 : True := .intro
theorem tw9234772312007462822 : True := .intro
theorem tw9411034501467111250 : True := .intro
theorem tw12314243150607365256 : True := .intro
theorem tw4286390682389587518 : True := .intro
theorem tw12834017885311791941 : True := .intro
theorem tw18272172805046992894 : True := .intro
theorem tw5198131980616215253 : True := .intro
theorem tw7466044935241880423 : True := .intro
theorem tw16785110466681848701 : True := .intro
theorem tw10542553873411930401 : True := .intro
theorem tw16716530632076999838 : True := .intro
theorem tw11628575684143662914 : True := .intro
theorem tw6322824396232847387 : True := .intro
theorem tw9302220055829711489 : True := .intro
theorem tw12614933828359912278 : True := .intro
theorem tw7155900960251163169 : True := .intro
theorem tw14357711739910602805 : True := .intro
theorem tw7357620705894080091 : True := .intro
theorem tw5560899976161245638 : True := .intro
theorem tw12459499550068025490 : True := .intro
theorem tw13187690411356787916 : True := .intro
theorem tw313771561707691971 : True := .intro
theorem tw8041825557154804569 : True := .intro
theorem tw8643971295946227486 : True := .intro
theorem tw5302875750782362023 : True := .intro
theorem tw1894855741662315357 : True := .intro
theorem tw4939158941632732089 : True := .intro
theorem tw3825667865668929552 : True := .intro
theorem tw15843642598642550664 : True := .intro
theorem tw9058157932361240822 : True := .intro
theorem tw12111414206248169912 : True := .intro
theorem tw13838927289445211597 : True := .intro
theorem tw10959396386897794274 : True := .intro
theorem tw7683417485930366107 : True := .intro
theorem tw2612015950820579796 : True := .intro
theorem tw10573052547467398828 : True := .intro
theorem tw4467631658210080410 : True := .intro
theorem tw12408864596502113358 : True := .intro
theorem tw14956377334255193759 : True := .intro
theorem tw3610509996525732359 : True := .intro
theorem tw13578048682713108231 : True := .intro
theorem tw6168101855228384621 : True := .intro
theorem tw10932583865223911449 : True := .intro
theorem tw6855900236015510873 : True := .intro
theorem tw6927448531775835559 : True := .intro
theorem tw4238014473892517891 : True := .intro
theorem tw15548548609318340905 : True := .intro
theorem tw9024139972658323250 : True := .intro
theorem tw7383615708612564220 : True := .intro
theorem tw8644158547401840334 : True := .intro
theorem tw5633876737821062822 : True := .intro
theorem tw14951106617535432774 : True := .intro
theorem tw5193661714458320065 : True := .intro
theorem tw15626778500536006390 : True := .intro
theorem tw2074837125284960769 : True := .intro
theorem tw10922782188462210749 : True := .intro
theorem tw4056205635380310710 : True := .intro
theorem tw3419822122552521552 : True := .intro
theorem tw15405613420272075023 : True := .intro
theorem tw10504906909857889476 : True := .intro
theorem tw9481496998864075010 : True := .intro
theorem tw2172427492533984667 : True := .intro
theorem tw8467747004161424437 : True := .intro
theorem tw18323269330024840166 : True := .intro
theorem tw14685186547148625564 : True := .intro
theorem tw14039173403084914587 : True := .intro
theorem tw17696473937329825877 : True := .intro
theorem tw16721961716924028003 : True := .intro
theorem tw18172298491719106994 : True := .intro
theorem tw8834834272737693170 : True := .intro
theorem tw12612213581629139799 : True := .intro
theorem tw15962166661373106382 : True := .intro
theorem tw159396473693736613 : True := .intro
theorem tw1342605917539692076 : True := .intro
theorem tw2815106389977598081 : True := .intro
theorem tw5574184089119374878 : True := .intro
theorem tw10988926066686173270 : True := .intro
theorem tw11379329888816886811 : True := .intro
theorem tw3997025048055912901 : True := .intro
theorem tw12303188586638386902 : True := .intro
theorem tw17929461562547201942 : True := .intro
theorem tw13402710429643395905 : True := .intro
theorem tw16414786921646169556 : True := .intro
theorem tw2239656549978271501 : True := .intro
theorem tw1717322475869843509 : True := .intro
theorem tw13483726124731084639 : True := .intro
theorem tw5428030997261133495 : True := .intro
theorem tw291920366134572382 : True := .intro
theorem tw15045222557714667239 : True := .intro
theorem tw671946992951384452 : True := .intro
theorem tw3295067634714470422 : True := .intro
theorem tw15593455929028296491 : True := .intro
theorem tw14631578164988405273 : True := .intro
theorem tw15690555926002286054 : True := .intro
theorem tw5915878665368789738 : True := .intro
theorem tw2465489460590589284 : True := .intro
theorem tw11452973168460075057 : True := .intro
theorem tw2810076577539382295 : True := .intro
theorem tw18147000301458367164 : True := .intro
theorem tw5252302009289470927 : True := .intro
theorem tw15745284739998983353 : True := .intro
theorem tw4567063175013203086 : True := .intro
theorem tw8358616928224349006 : True := .intro
theorem tw1594366548353357311 : True := .intro
theorem tw14464788654113350726 : True := .intro
theorem tw14042438294565384600 : True := .intro
theorem tw13949574556447219131 : True := .intro
theorem tw8632345814024987301 : True := .intro
theorem tw16162678607296718456 : True := .intro
theorem tw14834020822412339950 : True := .intro
theorem tw1565981185893224163 : True := .intro
theorem tw6078172861770077981 : True := .intro
theorem tw13587209736960799257 : True := .intro
theorem tw769549448521806218 : True := .intro
theorem tw5482869572547611322 : True := .intro
theorem tw9067072935183812023 : True := .intro
theorem tw16117379555878353355 : True := .intro
theorem tw17555037362089453795 : True := .intro
theorem tw13402291577740689201 : True := .intro
theorem tw11596431186902942748 : True := .intro
theorem tw4456266253290645825 : True := .intro
theorem tw2409704334310029050 : True := .intro
theorem tw5606605420678922387 : True := .intro
theorem tw16284355088197802680 : True := .intro
theorem tw6064473907311612646 : True := .intro
theorem tw15219054477606110235 : True := .intro
theorem tw16727376403405601897 : True := .intro
theorem tw855869017279528065 : True := .intro
theorem tw12480005041503899571 : True := .intro
theorem tw13933737137235848758 : True := .intro
theorem tw2318877838401506994 : True := .intro
theorem tw2808498042909844400 : True := .intro
theorem tw14900875235273594240 : True := .intro
theorem tw5080658830048967653 : True := .intro
theorem tw17231608622951817263 : True := .intro
theorem tw16703754807360051313 : True := .intro
theorem tw10632465720888161787 : True := .intro
theorem tw15131444851816875538 : True := .intro
theorem tw9282950317524368623 : True := .intro
theorem tw10874595380326954951 : True := .intro
theorem tw2618954260965017368 : True := .intro
theorem tw2080077537508088092 : True := .intro
theorem tw4130906862296686221 : True := .intro
theorem tw750442809687322688 : True := .intro
theorem tw17144776505436634799 : True := .intro
theorem tw426705574991237497 : True := .intro
theorem tw6671541805468713927 : True := .intro
theorem tw13477476069348961583 : True := .intro
theorem tw18056125858025323026 : True := .intro
theorem tw2598111930460134910 : True := .intro
theorem tw6206011373139516554 : True := .intro
theorem tw3685574274604709255 : True := .intro
theorem tw5066327439711799215 : True := .intro
theorem tw1774736587132802495 : True := .intro
theorem tw9522615568243549719 : True := .intro
theorem tw12202991360443586512 : True := .intro
theorem tw8367221279428251236 : True := .intro
theorem tw4248574945887347655 : True := .intro
theorem tw14590028874794195882 : True := .intro
theorem tw8785239020765298805 : True := .intro
theorem tw15679964853052489458 : True := .intro
theorem tw6591228172644466650 : True := .intro
theorem tw10441492907948705728 : True := .intro
theorem tw1408130618222101472 : True := .intro
theorem tw6618558918766100192 : True := .intro
theorem tw3691569323054709121 : True := .intro
theorem tw12520696747823159047 : True := .intro
theorem tw15942934398771308715 : True := .intro
theorem tw5062464369130335475 : True := .intro
theorem tw17414358099231419271 : True := .intro
theorem tw8256229488569826899 : True := .intro
theorem tw14596384268454127845 : True := .intro
theorem tw9017228166369228178 : True := .intro
theorem tw17109331635839128228 : True := .intro
theorem tw3798664479436707364 : True := .intro
theorem tw12995362357601245488 : True := .intro
theorem tw16271056575411811894 : True := .intro
theorem tw2172538560450720022 : True := .intro
theorem tw7696332431952190784 : True := .intro
theorem tw16645062128437191153 : True := .intro
theorem tw7778898879358949143 : True := .intro
theorem tw13173540179630997056 : True := .intro
theorem tw6181852963494517260 : True := .intro
theorem tw10578350260379492216 : True := .intro
theorem tw1321292095966155708 : True := .intro
theorem tw3628254553429352347 : True := .intro
theorem tw6577820528800816850 : True := .intro
theorem tw11548372876114274752 : True := .intro
theorem tw3293977472965649687 : True := .intro
theorem tw16584391914057873278 : True := .intro
theorem tw9348921479420697235 : True := .intro
theorem tw9162690569924322713 : True := .intro
theorem tw15985886220969637018 : True := .intro
theorem tw16851164552377234967 : True := .intro
theorem tw5992558558269967292 : True := .intro
theorem tw5845625920977629521 : True := .intro
theorem tw7474345591168488532 : True := .intro
theorem tw12206152691818879337 : True := .intro
theorem tw13501053984370616221 : True := .intro
theorem tw16762612721023667778 : True := .intro
theorem tw5047120124597305026 : True := .intro
theorem tw2899844628519289762 : True := .intro
theorem tw1469969163462684122 : True := .intro
theorem tw8944449175598183866 : True := .intro
theorem tw2615844641373476279 : True := .intro
theorem tw10932138853728391374 : True := .intro
theorem tw9626619617112612061 : True := .intro
theorem tw13871368486244266119 : True := .intro
theorem tw4685218174599359807 : True := .intro
theorem tw14870125159590814412 : True := .intro
theorem tw618942973664124115 : True := .intro
theorem tw2390613998110626409 : True := .intro
theorem tw3210130623415185304 : True := .intro
theorem tw16108113947760027682 : True := .intro
theorem tw4027859013978154296 : True := .intro
theorem tw1470089974855297895 : True := .intro
theorem tw7819896270600006313 : True := .intro
theorem tw6179576500185409324 : True := .intro
theorem tw9765336830177562670 : True := .intro
theorem tw3084132693198954207 : True := .intro
theorem tw10848623291270192053 : True := .intro
theorem tw10493008197783063442 : True := .intro
theorem tw18030904930474652726 : True := .intro
theorem tw7154642925100130322 : True := .intro
theorem tw11038753350190826050 : True := .intro
theorem tw17537610901592752336 : True := .intro
theorem tw6943609396762674852 : True := .intro
theorem tw12526702979474765406 : True := .intro
theorem tw3052372159720381520 : True := .intro
theorem tw17090627904439959554 : True := .intro
theorem tw14396391355334540671 : True := .intro
theorem tw15312594925728051218 : True := .intro
theorem tw6277986437107720894 : True := .intro
theorem tw7735654617732573309 : True := .intro
theorem tw2387452715090678988 : True := .intro
theorem tw15816142296649942199 : True := .intro
theorem tw12790252675784757618 : True := .intro
theorem tw18423764196213071919 : True := .intro
theorem tw4018121491333294518 : True := .intro
theorem tw6416097864980935398 : True := .intro
theorem tw2041487513712692100 : True := .intro
theorem tw12419334118959137836 : True := .intro
theorem tw7046223919134368387 : True := .intro
theorem tw7523772814413144562 : True := .intro
theorem tw5375602772644642022 : True := .intro
theorem tw5861614504492355273 : True := .intro
theorem tw3273666937591752625 : True := .intro
theorem tw16855628277514293243 : True := .intro
theorem tw13044125322361012719 : True := .intro
theorem tw9771687765149652010 : True := .intro
theorem tw17180972175184610079 : True := .intro
theorem tw6185418071710170668 : True := .intro
theorem tw3951509355450064424 : True := .intro
theorem tw763115962634238224 : True := .intro
theorem tw15865682536735542265 : True := .intro
theorem tw9800513207308304086 : True := .intro
theorem tw8632211176049229016 : True := .intro
theorem tw4945469649068576419 : True := .intro
theorem tw2256216811885214217 : True := .intro
theorem tw9034377587836067152 : True := .intro
theorem tw3402273846744898993 : True := .intro
theorem tw16361349896442373299 : True := .intro
theorem tw14466598236726815905 : True := .intro
theorem tw5516588227367967231 : True := .intro
theorem tw16989498457295212666 : True := .intro
theorem tw15384048153759850971 : True := .intro
theorem tw9769821955478540751 : True := .intro
theorem tw7773447374267693125 : True := .intro
theorem tw13853623008532750150 : True := .intro
theorem tw765417881517773649 : True := .intro
theorem tw9691750712904155648 : True := .intro
theorem tw10763925266581299889 : True := .intro
theorem tw8062653358413363133 : True := .intro
theorem tw4876396677559792987 : True := .intro
theorem tw1138930118257283972 : True := .intro
theorem tw16687655587246766040 : True := .intro
theorem tw10466764698478964581 : True := .intro
theorem tw4784691924500219051 : True := .intro
theorem tw1009266694710110207 : True := .intro
theorem tw4292263214796581695 : True := .intro
theorem tw15377205349217892364 : True := .intro
theorem tw10438698855672043942 : True := .intro
theorem tw3926519767054619754 : True := .intro
theorem tw2690286065953055556 : True := .intro
theorem tw12918628057505206130 : True := .intro
theorem tw5367883344781181636 : True := .intro
theorem tw2307907357236040744 : True := .intro
theorem tw7875162335167786319 : True := .intro
theorem tw16281967274316539886 : True := .intro
theorem tw3171505461274189931 : True := .intro
theorem tw5448556973158852886 : True := .intro
theorem tw10304192741421038360 : True := .intro
theorem tw17163508020957405093 : True := .intro
theorem tw5310169496157699977 : True := .intro
theorem tw16617660211342731372 : True := .intro
theorem tw17753988919980362318 : True := .intro
theorem tw3566084392214582419 : True := .intro
theorem tw14739639208563065917 : True := .intro
theorem tw17521761253619136047 : True := .intro
theorem tw2877830758581204803 : True := .intro
theorem tw3068815081095698400 : True := .intro
theorem tw993403518757360042 : True := .intro
theorem tw9335633089351380260 : True := .intro
theorem tw17005438735682931296 : True := .intro
theorem tw17357445077523410395 : True := .intro
theorem tw3555488262292169897 : True := .intro
theorem tw14437296381677157636 : True := .intro
theorem tw9331862306435594269 : True := .intro
theorem tw13965797276745906146 : True := .intro
theorem tw8625087250232207909 : True := .intro
theorem tw6672758439406761457 : True := .intro
theorem tw5158662698498621940 : True := .intro
theorem tw5516590858353836560 : True := .intro
theorem tw17447900683632835112 : True := .intro
theorem tw12732964132344473898 : True := .intro
theorem tw5589189531130801683 : True := .intro
theorem tw1987466153928432981 : True := .intro
theorem tw9835484057048037975 : True := .intro
theorem tw1074140594435023493 : True := .intro
theorem tw13374506025115504140 : True := .intro
theorem tw14848571220213745322 : True := .intro
theorem tw9515653439328350034 : True := .intro
theorem tw9902104511602532358 : True := .intro
theorem tw4308371122669021272 : True := .intro
theorem tw7764432006893502368 : True := .intro
theorem tw15758565049338457448 : True := .intro
theorem tw2525003717770265417 : True := .intro
theorem tw16417921530475804989 : True := .intro
theorem tw12788316010109061192 : True := .intro
theorem tw1249953922316183417 : True := .intro
theorem tw12326669429941577799 : True := .intro
theorem tw5115969029033000281 : True := .intro
theorem tw15997331729906836747 : True := .intro
theorem tw14123606838362937075 : True := .intro
theorem tw6912350433447928255 : True := .intro
theorem tw13028238666945344876 : True := .intro
theorem tw16465041252816871244 : True := .intro
theorem tw12442958023033945923 : True := .intro
theorem tw3965782071408043059 : True := .intro
theorem tw10280520153203216821 : True := .intro
theorem tw17881119493939216525 : True := .intro
theorem tw64865953582078584 : True := .intro
theorem tw15188396506779350406 : True := .intro
theorem tw1465166924699951681 : True := .intro
theorem tw4958254255955717462 : True := .intro
theorem tw16663128723449803069 : True := .intro
theorem tw5355932898479988497 : True := .intro
theorem tw17311546508417789756 : True := .intro
theorem tw1273216902242611136 : True := .intro
theorem tw15096546769693589860 : True := .intro
theorem tw7552837089096909298 : True := .intro
theorem tw2971609480750323221 : True := .intro
theorem tw5191163284039687778 : True := .intro
theorem tw12812479588552428671 : True := .intro
theorem tw1571317584882688395 : True := .intro
theorem tw6206955504315591984 : True := .intro
theorem tw17670634557499773720 : True := .intro
theorem tw6406754467088342866 : True := .intro
theorem tw8778143517361188762 : True := .intro
theorem tw604763954288142479 : True := .intro
theorem tw14099213738170933434 : True := .intro
theorem tw7362912321755944514 : True := .intro
theorem tw10867712090618340531 : True := .intro
theorem tw9032589135083247916 : True := .intro
theorem tw17028387113377436096 : True := .intro
theorem tw3861610419774362342 : True := .intro
theorem tw16306754133374641042 : True := .intro
theorem tw8981635922702121393 : True := .intro
theorem tw13380984146370803995 : True := .intro
theorem tw6508124902042446572 : True := .intro
theorem tw16031254236141156775 : True := .intro
theorem tw6063826520100781482 : True := .intro
theorem tw17484876895592393093 : True := .intro
theorem tw3573323461513312833 : True := .intro
theorem tw1304290041293285316 : True := .intro
theorem tw2696354330141113177 : True := .intro
theorem tw5288285876048274129 : True := .intro
theorem tw5368673929630717859 : True := .intro
theorem tw13978929883269313234 : True := .intro
theorem tw18356488043329395376 : True := .intro
theorem tw8521071281797971849 : True := .intro
theorem tw13121945685246640813 : True := .intro
theorem tw2788976466213366019 : True := .intro
theorem tw738053920977621406 : True := .intro
theorem tw1960086828288599719 : True := .intro
theorem tw14478011261862608802 : True := .intro
theorem tw13935762543050039458 : True := .intro
theorem tw10384794974134832427 : True := .intro
theorem tw7607085701381256312 : True := .intro
theorem tw727651105185141748 : True := .intro
theorem tw13577531087257137816 : True := .intro
theorem tw4984717114083853812 : True := .intro
theorem tw958663837644900832 : True := .intro
theorem tw5583801502959259968 : True := .intro
theorem tw12275262194583161317 : True := .intro
theorem tw3516860052802728493 : True := .intro
theorem tw4014339993457678255 : True := .intro
theorem tw1908356271100250692 : True := .intro
theorem tw159423753856557128 : True := .intro
theorem tw14702710796749744070 : True := .intro
theorem tw581829927020390605 : True := .intro
theorem tw15238974817174910080 : True := .intro
theorem tw11428452893762735404 : True := .intro
theorem tw6098934421157414963 : True := .intro
theorem tw8349202194623913741 : True := .intro
theorem tw11900456701980122915 : True := .intro
theorem tw578570812716160750 : True := .intro
theorem tw11649456397410032427 : True := .intro
theorem tw11290766596415264619 : True := .intro
theorem tw5196409240598663203 : True := .intro
theorem tw11597033088977741937 : True := .intro
theorem tw1655266898023624332 : True := .intro
theorem tw9322419846853621664 : True := .intro
theorem tw10732259348218678907 : True := .intro
theorem tw2254598665665849441 : True := .intro
theorem tw8822096114434320994 : True := .intro
theorem tw10538589646958136387 : True := .intro
theorem tw18144721520061400855 : True := .intro
theorem tw8576365786900080578 : True := .intro
theorem tw3847647543126710681 : True := .intro
theorem tw2689908987899245050 : True := .intro
theorem tw3393165632322020999 : True := .intro
theorem tw125792402220376848 : True := .intro
theorem tw17303709804020992031 : True := .intro
theorem tw3309717457804906460 : True := .intro
theorem tw13113635354272554009 : True := .intro
theorem tw1350872236889411971 : True := .intro
theorem tw10757046015178963108 : True := .intro
theorem tw11672155296287185539 : True := .intro
theorem tw10569108427384038707 : True := .intro
theorem tw11817855619315339351 : True := .intro
theorem tw1034681560164842110 : True := .intro
theorem tw8167186424758606114 : True := .intro
theorem tw4692553099342765046 : True := .intro
theorem tw16315821496758797580 : True := .intro
theorem tw10602366091393283814 : True := .intro
theorem tw17014135534536231735 : True := .intro
theorem tw17246719579843676062 : True := .intro
theorem tw16476704952070813501 : True := .intro
theorem tw1358196156407517658 : True := .intro
theorem tw16963790803295953232 : True := .intro
theorem tw10925367912090055056 : True := .intro
theorem tw321907815882870658 : True := .intro
theorem tw3780834086767766666 : True := .intro
theorem tw12540512840338028164 : True := .intro
theorem tw4561951124629232944 : True := .intro
theorem tw1562070775001634517 : True := .intro
theorem tw13466591372711469350 : True := .intro
theorem tw5380322804178846191 : True := .intro
theorem tw6343845932151663919 : True := .intro
theorem tw4452525701228517630 : True := .intro
theorem tw7699941097042046769 : True := .intro
theorem tw1431977937320005390 : True := .intro
theorem tw14478100120658745608 : True := .intro
theorem tw15010907194115264597 : True := .intro
theorem tw6620432766598346493 : True := .intro
theorem tw6072714625409911512 : True := .intro
theorem tw14451371409489827017 : True := .intro
theorem tw880850171890636061 : True := .intro
theorem tw5892580807968575948 : True := .intro
theorem tw81296547486064583 : True := .intro
theorem tw3885243257662287671 : True := .intro
theorem tw11638564939311305351 : True := .intro
theorem tw7060789000636490624 : True := .intro
theorem tw15226486513443945723 : True := .intro
theorem tw2762053309535935786 : True := .intro
theorem tw1241011818612357590 : True := .intro
theorem tw2757754792210831813 : True := .intro
theorem tw669057481813691215 : True := .intro
theorem tw17588921099664055005 : True := .intro
theorem tw293583586283896796 : True := .intro
theorem tw11639605084869438366 : True := .intro
theorem tw1460683034016175296 : True := .intro
theorem tw13545878129822158883 : True := .intro
theorem tw6984556162300390333 : True := .intro
theorem tw3613355675062909474 : True := .intro
theorem tw5805005507639763975 : True := .intro
theorem tw11827200295960473605 : True := .intro
theorem tw1403273436301512311 : True := .intro
theorem tw4340107170353330037 : True := .intro
theorem tw9120796911311522200 : True := .intro
theorem tw827064476810216274 : True := .intro
theorem tw1198357618144057224 : True := .intro
theorem tw3767886602862751581 : True := .intro
theorem tw7360944141498592061 : True := .intro
theorem tw5081112759990388669 : True := .intro
theorem tw17983747280085855216 : True := .intro
theorem tw14918372329667850783 : True := .intro
theorem tw4323965749217144236 : True := .intro
theorem tw3008147724681396708 : True := .intro
theorem tw9989434956011098950 : True := .intro
theorem tw16231987699903396860 : True := .intro
theorem tw18146877888974229410 : True := .intro
theorem tw4997860811784820065 : True := .intro
theorem tw5266731840317813981 : True := .intro
theorem tw3728376163662842521 : True := .intro
theorem tw17540995507181585556 : True := .intro
theorem tw4494358825150850271 : True := .intro
theorem tw1414401526083336945 : True := .intro
theorem tw12367072719552696112 : True := .intro
theorem tw2440465964166301649 : True := .intro
theorem tw10877290523613648262 : True := .intro
theorem tw11193165073726651576 : True := .intro
theorem tw934517985514938773 : True := .intro
theorem tw440548199264417846 : True := .intro
theorem tw13788574462171853294 : True := .intro
theorem tw5951690879695362852 : True := .intro
theorem tw1346098213877274697 : True := .intro
theorem tw13612515990214166565 : True := .intro
theorem tw1032135257159434633 : True := .intro
theorem tw433221346552472409 : True := .intro
theorem tw15644713905537087044 : True := .intro
theorem tw4346977111439351687 : True := .intro
theorem tw13347200255199598885 : True := .intro
theorem tw3128770255200498593 : True := .intro
theorem tw13368264898511282382 : True := .intro
theorem tw13280671159007678774 : True := .intro
theorem tw10608511900755321265 : True := .intro
theorem tw811145549898506211 : True := .intro
theorem tw8647635269629315598 : True := .intro
theorem tw14237091481477033888 : True := .intro
theorem tw1365244461425617595 : True := .intro
theorem tw17976671692567187954 : True := .intro
theorem tw14077557422722547866 : True := .intro
theorem tw18187867865484386711 : True := .intro
theorem tw16860242446211099314 : True := .intro
theorem tw8954022478020062921 : True := .intro
theorem tw7050446103085444704 : True := .intro
theorem tw15017258679438665732 : True := .intro
theorem tw7887958552561580659 : True := .intro
theorem tw17522957628900885813 : True := .intro
theorem tw638730121470476307 : True := .intro
theorem tw8085088713438672993 : True := .intro
theorem tw1825856710783165400 : True := .intro
theorem tw9516378242400798051 : True := .intro
theorem tw7785358716016501720 : True := .intro
theorem tw13406217014116840967 : True := .intro
theorem tw12582562970956220121 : True := .intro
theorem tw12191474932358780940 : True := .intro
theorem tw13315507378676616781 : True := .intro
theorem tw4306378771015565334 : True := .intro
theorem tw16530685632449993011 : True := .intro
theorem tw10066742169700878917 : True := .intro
theorem tw12710606177967681144 : True := .intro
theorem tw4569740640920836126 : True := .intro
theorem tw8092330070408357389 : True := .intro
theorem tw10261231167579032327 : True := .intro
theorem tw9194406422849139250 : True := .intro
theorem tw11849530072800846321 : True := .intro
theorem tw831748200607987108 : True := .intro
theorem tw9787734552491572013 : True := .intro
theorem tw11787115286763872401 : True := .intro
theorem tw14699736340285373881 : True := .intro
theorem tw13702856930343991712 : True := .intro
theorem tw11523161802925894768 : True := .intro
theorem tw12419547466624759973 : True := .intro
theorem tw13055762752052848413 : True := .intro
theorem tw3386971024810973987 : True := .intro
theorem tw15873377097052972701 : True := .intro
theorem tw16462058618316361642 : True := .intro
theorem tw15755586962087343831 : True := .intro
theorem tw9445495063247719421 : True := .intro
theorem tw5230422336975462899 : True := .intro
theorem tw3775444049443365232 : True := .intro
theorem tw7199715044748196327 : True := .intro
theorem tw11176303832379536770 : True := .intro
theorem tw13478530907990395211 : True := .intro
theorem tw9040234592265141886 : True := .intro
theorem tw10797014304930273831 : True := .intro
theorem tw16617044680404408201 : True := .intro
theorem tw4301016260239386985 : True := .intro
theorem tw13418462435445008599 : True := .intro
theorem tw17899477012750008476 : True := .intro
theorem tw9908518940117215803 : True := .intro
theorem tw9756846345257213821 : True := .intro
theorem tw17233423859934893673 : True := .intro
theorem tw12214238312933509059 : True := .intro
theorem tw11953629901670937451 : True := .intro
theorem tw13262508694572034772 : True := .intro
theorem tw14505694009612420280 : True := .intro
theorem tw6826232932043362642 : True := .intro
theorem tw377266337759257970 : True := .intro
theorem tw11792320611185589586 : True := .intro
theorem tw6187879263403430553 : True := .intro
theorem tw17523361462504816816 : True := .intro
theorem tw15023256597022556049 : True := .intro
theorem tw2237539502657944140 : True := .intro
theorem tw17150886138597116337 : True := .intro
theorem tw13887507400635862025 : True := .intro
theorem tw3898989554559033255 : True := .intro
theorem tw10492310667940240281 : True := .intro
theorem tw17157094810734724507 : True := .intro
theorem tw3647725317695882646 : True := .intro
theorem tw4716820245339748527 : True := .intro
theorem tw17895536444762095775 : True := .intro
theorem tw9503783118614512981 : True := .intro
theorem tw12342333828066179910 : True := .intro
theorem tw10196649424139744209 : True := .intro
theorem tw14894217004149376807 : True := .intro
theorem tw4731380260000517706 : True := .intro
theorem tw15244716726528643432 : True := .intro
theorem tw10615361109402578805 : True := .intro
theorem tw3698679663835078531 : True := .intro
theorem tw16194402513749730838 : True := .intro
theorem tw7699936776310046214 : True := .intro
theorem tw14605416700018304589 : True := .intro
theorem tw11529862668760724587 : True := .intro
theorem tw7919858870620420807 : True := .intro
theorem tw13689729908755191442 : True := .intro
theorem tw12380604347032526881 : True := .intro
theorem tw11453119689896639456 : True := .intro
theorem tw5639352692591752999 : True := .intro
theorem tw17510202951262054132 : True := .intro
theorem tw6358961312046107769 : True := .intro
theorem tw4522153649324040827 : True := .intro
theorem tw9588479936707433103 : True := .intro
theorem tw5316928076027641574 : True := .intro
theorem tw11915814410181759052 : True := .intro
theorem tw16691538355526462874 : True := .intro
theorem tw4288583963218414391 : True := .intro
theorem tw16753912983937538250 : True := .intro
theorem tw3949238238574395052 : True := .intro
theorem tw14432794101066141424 : True := .intro
theorem tw4703576662724342594 : True := .intro
theorem tw5906274463288810280 : True := .intro
theorem tw13056552244174028024 : True := .intro
theorem tw6866025435752042970 : True := .intro
theorem tw4649458673216468229 : True := .intro
theorem tw12496783769297064199 : True := .intro
theorem tw10383478867572960068 : True := .intro
theorem tw4147665538811987977 : True := .intro
theorem tw16608157490763486400 : True := .intro
theorem tw14361860873891099436 : True := .intro
theorem tw16933595601755257848 : True := .intro
theorem tw13710769089102581637 : True := .intro
theorem tw2367854522461300353 : True := .intro
theorem tw8175547920805257589 : True := .intro
theorem tw9588218216546093303 : True := .intro
theorem tw4723223930625669181 : True := .intro
theorem tw3022467600548321262 : True := .intro
theorem tw18207778685189695903 : True := .intro
theorem tw2933968658892761928 : True := .intro
theorem tw9839017791596377154 : True := .intro
theorem tw726669610693177721 : True := .intro
theorem tw5907535195282060245 : True := .intro
theorem tw5221768889766819837 : True := .intro
theorem tw7025505991696380445 : True := .intro
theorem tw8550061181409836709 : True := .intro
theorem tw6571840589587645799 : True := .intro
theorem tw17857051413392007666 : True := .intro
theorem tw15280719811025623408 : True := .intro
theorem tw5076017306578166441 : True := .intro
theorem tw1205583261138542614 : True := .intro
theorem tw15169212767368198215 : True := .intro
theorem tw17014216087783551856 : True := .intro
theorem tw17176482479307862460 : True := .intro
theorem tw9405104240342087025 : True := .intro
theorem tw10194643119702120622 : True := .intro
theorem tw11578237741392201256 : True := .intro
theorem tw4963425595391347195 : True := .intro
theorem tw11829484694022308007 : True := .intro
theorem tw12118828618531330270 : True := .intro
theorem tw358781939093458878 : True := .intro
theorem tw10484884201680741682 : True := .intro
theorem tw3915648722504481078 : True := .intro
theorem tw10626624953319113439 : True := .intro
theorem tw8718506619165271995 : True := .intro
theorem tw14121651338198053660 : True := .intro
theorem tw10818258920147351345 : True := .intro
theorem tw8426248308674921057 : True := .intro
theorem tw13217985575175103118 : True := .intro
theorem tw5287668945036663912 : True := .intro
theorem tw6735779267488460556 : True := .intro
theorem tw8212512645573552886 : True := .intro
theorem tw15026457776919487107 : True := .intro
theorem tw6143526634652763824 : True := .intro
theorem tw18166488834672733066 : True := .intro
theorem tw10888611827801308768 : True := .intro
theorem tw3157386841199647906 : True := .intro
theorem tw10062530024127666646 : True := .intro
theorem tw396212910259457228 : True := .intro
theorem tw8681720157249937065 : True := .intro
theorem tw1446523922290540276 : True := .intro
theorem tw10446989619386426719 : True := .intro
theorem tw15324040722628855489 : True := .intro
theorem tw6388764195474184360 : True := .intro
theorem tw6799407185484494737 : True := .intro
theorem tw6646860318939899920 : True := .intro
theorem tw13565372474647756594 : True := .intro
theorem tw10670920510797090570 : True := .intro
theorem tw1605462722940046234 : True := .intro
theorem tw6406562518207839933 : True := .intro
theorem tw7644040037990825531 : True := .intro
theorem tw13049057114445849448 : True := .intro
theorem tw9638589884106766870 : True := .intro
theorem tw5266604667653940773 : True := .intro
theorem tw1906943943563550943 : True := .intro
theorem tw12023253653734841987 : True := .intro
theorem tw13493892616786273623 : True := .intro
theorem tw9100023152048835552 : True := .intro
theorem tw7467373724806394300 : True := .intro
theorem tw17147515076411431061 : True := .intro
theorem tw4359539787489262649 : True := .intro
theorem tw12265905447873974269 : True := .intro
theorem tw1117541819443426950 : True := .intro
theorem tw9635528016836901371 : True := .intro
theorem tw13295160424412061148 : True := .intro
theorem tw9687204485979022189 : True := .intro
theorem tw4308052453579271090 : True := .intro
theorem tw7954134558259962991 : True := .intro
theorem tw17440445004129617604 : True := .intro
theorem tw13013513514533883346 : True := .intro
theorem tw14484742190672684448 : True := .intro
theorem tw11466005439166489211 : True := .intro
theorem tw10718206170937682189 : True := .intro
theorem tw793414615777942257 : True := .intro
theorem tw16314654668723493644 : True := .intro
theorem tw17454385071989645516 : True := .intro
theorem tw7061029854960582960 : True := .intro
theorem tw10029964157651540153 : True := .intro
theorem tw17855009646467575364 : True := .intro
theorem tw3922671440564258245 : True := .intro
theorem tw16728361736913238631 : True := .intro
theorem tw1040285959729092281 : True := .intro
theorem tw643460672484385160 : True := .intro
theorem tw1093495637717486845 : True := .intro
theorem tw6914129051021236183 : True := .intro
theorem tw15761994673394735045 : True := .intro
theorem tw5073590190643507299 : True := .intro
theorem tw5809202691715201641 : True := .intro
theorem tw3933770890568657373 : True := .intro
theorem tw8496198277461972760 : True := .intro
theorem tw10295436533483294510 : True := .intro
theorem tw12498920431612587399 : True := .intro
theorem tw6799976159099425819 : True := .intro
theorem tw18329368120596885777 : True := .intro
theorem tw16163343822271649819 : True := .intro
theorem tw8532528476649467809 : True := .intro
theorem tw15944262856605681466 : True := .intro
theorem tw1663349394215764401 : True := .intro
theorem tw11228233231917317194 : True := .intro
theorem tw2187314105003508576 : True := .intro
theorem tw14657847575651576149 : True := .intro
theorem tw10636456267523208959 : True := .intro
theorem tw5006928833875172849 : True := .intro
theorem tw4359279205698837496 : True := .intro
theorem tw8516069880909082491 : True := .intro
theorem tw13692560458334545397 : True := .intro
theorem tw16426342641202280726 : True := .intro
theorem tw7503215878648529621 : True := .intro
theorem tw2479036926588606008 : True := .intro
theorem tw9374428425808426656 : True := .intro
theorem tw4057373009141203263 : True := .intro
theorem tw12885700682051025464 : True := .intro
theorem tw5795921212738799898 : True := .intro
theorem tw12222053622835965577 : True := .intro
theorem tw16486887584237537891 : True := .intro
theorem tw17615234642244508530 : True := .intro
theorem tw1573159467164309038 : True := .intro
theorem tw3000464428973285284 : True := .intro
theorem tw2096433609319450886 : True := .intro
theorem tw17961674910725017704 : True := .intro
theorem tw5259102220726179342 : True := .intro
theorem tw4934630268749153926 : True := .intro
theorem tw8701682883557260040 : True := .intro
theorem tw14167730189568905264 : True := .intro
theorem tw5606166652949537298 : True := .intro
theorem tw13275537302485730240 : True := .intro
theorem tw331533062437167293 : True := .intro
theorem tw5272364835484792482 : True := .intro
theorem tw7130890556634681926 : True := .intro
theorem tw2419782874087908284 : True := .intro
theorem tw13001522723688219319 : True := .intro
theorem tw12820647817908231208 : True := .intro
theorem tw11204810886875804516 : True := .intro
theorem tw16582560855300505489 : True := .intro
theorem tw11965599601453643159 : True := .intro
theorem tw10695672234971114450 : True := .intro
theorem tw13635195169295863395 : True := .intro
theorem tw11901461244298120577 : True := .intro
theorem tw9996008801711838609 : True := .intro
theorem tw10162555154641715881 : True := .intro
theorem tw7017827472368868914 : True := .intro
theorem tw7768686519965713508 : True := .intro
theorem tw8455253466699811577 : True := .intro
theorem tw12027764349857876952 : True := .intro
theorem tw3505612213221668831 : True := .intro
theorem tw11682978767495200708 : True := .intro
theorem tw17047694929535753063 : True := .intro
theorem tw6891807111229739525 : True := .intro
theorem tw6488746712046922470 : True := .intro
theorem tw491677137814626886 : True := .intro
theorem tw392871724076003443 : True := .intro
theorem tw13550039174122902499 : True := .intro
theorem tw15124485736434243184 : True := .intro
theorem tw3775206502128374228 : True := .intro
theorem tw9277886218750758784 : True := .intro
theorem tw12004261157264603606 : True := .intro
theorem tw13783669862001534604 : True := .intro
theorem tw10751342786452467914 : True := .intro
theorem tw13553712175298483013 : True := .intro
theorem tw10128208868567699268 : True := .intro
theorem tw15736081175485141267 : True := .intro
theorem tw1067684612707788777 : True := .intro
theorem tw15285864971168290819 : True := .intro
theorem tw5879230848161891074 : True := .intro
theorem tw16939672865255294432 : True := .intro
theorem tw10461747885670959070 : True := .intro
theorem tw942145227681040709 : True := .intro
theorem tw16307453698558841786 : True := .intro
theorem tw5106516232710209377 : True := .intro
theorem tw5374467810459792665 : True := .intro
theorem tw11698460487237072239 : True := .intro
theorem tw11551561050429432991 : True := .intro
theorem tw11853475238550239860 : True := .intro
theorem tw14749504961413883750 : True := .intro
theorem tw1164253578396041746 : True := .intro
theorem tw7490919319264465617 : True := .intro
theorem tw14195848757351107429 : True := .intro
theorem tw10650454780857813776 : True := .intro
theorem tw2866642433692657134 : True := .intro
theorem tw11786569271340373136 : True := .intro
theorem tw6249017136766952269 : True := .intro
theorem tw8132146563530787900 : True := .intro
theorem tw18327032362055227350 : True := .intro
theorem tw9453915506885593867 : True := .intro
theorem tw10875001800329711780 : True := .intro
theorem tw936899834493878594 : True := .intro
theorem tw7687112546177815345 : True := .intro
theorem tw3262388442408399879 : True := .intro
theorem tw17563779369047198236 : True := .intro
theorem tw9234490345864187124 : True := .intro
theorem tw641718149318784659 : True := .intro
theorem tw2979414503288473312 : True := .intro
theorem tw812952940214912469 : True := .intro
theorem tw16596391271043402172 : True := .intro
theorem tw11417255901909450604 : True := .intro
theorem tw9819762860329586867 : True := .intro
theorem tw8515983680292444110 : True := .intro
theorem tw16614284342171061004 : True := .intro
theorem tw15322033431554392588 : True := .intro
theorem tw1592510710482912973 : True := .intro
theorem tw1704459769095544174 : True := .intro
theorem tw5604764836331063393 : True := .intro
theorem tw15825813704627975526 : True := .intro
theorem tw15325499701476517326 : True := .intro
theorem tw10779597176713556913 : True := .intro
theorem tw18284471107577027167 : True := .intro
theorem tw5021332340878971302 : True := .intro
theorem tw13452134936619391044 : True := .intro
theorem tw15790502746225870145 : True := .intro
theorem tw9380375629626820562 : True := .intro
theorem tw10675413085680481471 : True := .intro
theorem tw16268673202255331326 : True := .intro
theorem tw7792276218951685563 : True := .intro
theorem tw13018164403486592488 : True := .intro
theorem tw18101996901586750194 : True := .intro
theorem tw17210039278409515586 : True := .intro
theorem tw5847466468904520318 : True := .intro
theorem tw18087825242291286777 : True := .intro
theorem tw12741908512575044062 : True := .intro
theorem tw6033626391906541361 : True := .intro
theorem tw13246865624752546805 : True := .intro
theorem tw3927766193967105129 : True := .intro
theorem tw2216768597845880353 : True := .intro
theorem tw5690843679326013865 : True := .intro
theorem tw9869812820107670973 : True := .intro
theorem tw157644820263564356 : True := .intro
theorem tw9663110753994353675 : True := .intro
theorem tw649290014810801530 : True := .intro
theorem tw4578195393316884570 : True := .intro
theorem tw6032005104735668362 : True := .intro
theorem tw4050411061129743113 : True := .intro
theorem tw11964683853579474672 : True := .intro
theorem tw7823343128891963590 : True := .intro
theorem tw7529185710542512728 : True := .intro
theorem tw12630062933493567239 : True := .intro
theorem tw11174480067661898563 : True := .intro
theorem tw15938549228272316119 : True := .intro
theorem tw2632557760046751351 : True := .intro
theorem tw11878916324247699188 : True := .intro
theorem tw284143871237793784 : True := .intro
theorem tw17788920559756187377 : True := .intro
theorem tw14758183279353618874 : True := .intro
theorem tw4611550199076137235 : True := .intro
theorem tw8577505009037901342 : True := .intro
theorem tw6549327392366510498 : True := .intro
theorem tw16797583775498896067 : True := .intro
theorem tw13465935944720355806 : True := .intro
theorem tw13919846426369520370 : True := .intro
theorem tw15295087133836176419 : True := .intro
theorem tw15091215540037986475 : True := .intro
theorem tw13524947823750664448 : True := .intro
theorem tw7655498523215637499 : True := .intro
theorem tw16429859648084945119 : True := .intro
theorem tw17599770646764845588 : True := .intro
theorem tw9811850604246682647 : True := .intro
theorem tw9468189402464130958 : True := .intro
theorem tw10110699347479614122 : True := .intro
theorem tw3615557637499295021 : True := .intro
theorem tw5934280751094737016 : True := .intro
theorem tw11739647438393022910 : True := .intro
theorem tw933599015851025818 : True := .intro
theorem tw8541985926410596791 : True := .intro
theorem tw808813335543291417 : True := .intro
theorem tw4371547062383424494 : True := .intro
theorem tw18056680700566310902 : True := .intro
theorem tw7756882741636298399 : True := .intro
theorem tw4414293953814364898 : True := .intro
theorem tw5745012771408823451 : True := .intro
theorem tw18149170083935841479 : True := .intro
theorem tw13592007882345066874 : True := .intro
theorem tw6439816047690904592 : True := .intro
theorem tw5934154649215113284 : True := .intro
theorem tw8873687460931555794 : True := .intro
theorem tw8586698190525645422 : True := .intro
theorem tw16197703713126994718 : True := .intro
theorem tw7439766763763111090 : True := .intro
theorem tw4631255542155967541 : True := .intro
theorem tw4521211548474026070 : True := .intro
theorem tw12243301508335203066 : True := .intro
theorem tw8981190326534629573 : True := .intro
theorem tw9727900760977582823 : True := .intro
theorem tw1910208933209495345 : True := .intro
theorem tw669062031502861617 : True := .intro
theorem tw4419460702898295951 : True := .intro
theorem tw9417618333679045652 : True := .intro
theorem tw17894124975258653910 : True := .intro
theorem tw5393211532068872423 : True := .intro
theorem tw2296571534421738328 : True := .intro
theorem tw4620685218645366733 : True := .intro
theorem tw13815008604984373932 : True := .intro
theorem tw1637367403206031639 : True := .intro
theorem tw4003301522727150670 : True := .intro
theorem tw15495102436673714702 : True := .intro
theorem tw7304719998707483332 : True := .intro
theorem tw3038456886706432854 : True := .intro
theorem tw14158539929394008774 : True := .intro
theorem tw105958131080479165 : True := .intro
theorem tw15486294635269949687 : True := .intro
theorem tw4566691356767445031 : True := .intro
theorem tw8485679873038691042 : True := .intro
theorem tw3330005687098441619 : True := .intro
theorem tw9642956996055583714 : True := .intro
theorem tw18296783364968643353 : True := .intro
theorem tw16116935415538089630 : True := .intro
theorem tw13204254928390052915 : True := .intro
theorem tw13029059666160882904 : True := .intro
theorem tw7600858684611905691 : True := .intro
theorem tw18000644038266753375 : True := .intro
theorem tw10037128354547059537 : True := .intro
theorem tw14105953770724742079 : True := .intro
theorem tw16999833278166159145 : True := .intro
theorem tw7338852148298567109 : True := .intro
theorem tw10420218340324486638 : True := .intro
theorem tw6456494302870991661 : True := .intro
theorem tw3659002810002266833 : True := .intro
theorem tw5265691604850153374 : True := .intro
theorem tw12705333205407135064 : True := .intro
theorem tw12014596601426515533 : True := .intro
theorem tw16776453441851356926 : True := .intro
theorem tw14961061516433392217 : True := .intro
theorem tw11170035158093396557 : True := .intro
theorem tw2825049431328378618 : True := .intro
theorem tw11572372458346709794 : True := .intro
theorem tw10002158149215744411 : True := .intro
theorem tw956402375454488108 : True := .intro
theorem tw15062872140166921930 : True := .intro
theorem tw6849555011431710683 : True := .intro
theorem tw16886729190636920081 : True := .intro
theorem tw16468421170026051996 : True := .intro
theorem tw7417929145375545806 : True := .intro
theorem tw13974668588227204003 : True := .intro
theorem tw5269633199368482985 : True := .intro
theorem tw6159501626598698366 : True := .intro
theorem tw380775042265096662 : True := .intro
theorem tw10627873911214805145 : True := .intro
theorem tw14988443579290732712 : True := .intro
theorem tw5104324902566861557 : True := .intro
theorem tw7043014135421891395 : True := .intro
theorem tw7607787481630821089 : True := .intro
theorem tw3534654332157999509 : True := .intro
theorem tw3225290470949133943 : True := .intro
theorem tw7116600174295449121 : True := .intro
theorem tw17556457829318090663 : True := .intro
theorem tw5724299229806256379 : True := .intro
theorem tw16076171706725450504 : True := .intro
theorem tw3768046498343004862 : True := .intro
theorem tw2010601994468819340 : True := .intro
theorem tw4149245636678964580 : True := .intro
theorem tw11315101127569312595 : True := .intro
theorem tw16138349420048434201 : True := .intro
theorem tw16684407692517450740 : True := .intro
theorem tw12647374562171814151 : True := .intro
theorem tw4817599469810266841 : True := .intro
theorem tw16744389876220189960 : True := .intro
theorem tw14362583332858428098 : True := .intro
theorem tw6314034723504409526 : True := .intro
theorem tw2366653961089136746 : True := .intro
theorem tw4975697898008324974 : True := .intro
theorem tw8383335121674940459 : True := .intro
theorem tw6859905220485304591 : True := .intro
theorem tw860494294897871478 : True := .intro
theorem tw7026716407318269949 : True := .intro
theorem tw18324560955026155803 : True := .intro
theorem tw12757722552072276609 : True := .intro
theorem tw13777488154483180783 : True := .intro
theorem tw18275727104598688819 : True := .intro
theorem tw6893007516112540439 : True := .intro
theorem tw6670725325942602576 : True := .intro
theorem tw730423111872919868 : True := .intro
theorem tw10424348411415579675 : True := .intro
theorem tw12518692456228934720 : True := .intro
theorem tw2567563764407856511 : True := .intro
theorem tw14713286153336898473 : True := .intro
theorem tw14411345811996315894 : True := .intro
theorem tw2287640182691016969 : True := .intro
theorem tw15922991266619412006 : True := .intro
theorem tw3009892705889290647 : True := .intro
theorem tw17223608082933602650 : True := .intro
theorem tw6799326701005160345 : True := .intro
theorem tw15011883033334594804 : True := .intro
theorem tw11260089102845338672 : True := .intro
theorem tw14466251766072418576 : True := .intro
theorem tw511339279065473269 : True := .intro
theorem tw15709707639692014416 : True := .intro
theorem tw2296914129372650252 : True := .intro
theorem tw12438882831898188968 : True := .intro
theorem tw2668525717390040478 : True := .intro
theorem tw1706913640993077339 : True := .intro
theorem tw14828455741152276771 : True := .intro
theorem tw15839398158519452692 : True := .intro
theorem tw13490586474998970133 : True := .intro
theorem tw2451372080677193676 : True := .intro
theorem tw8610374981255930047 : True := .intro
theorem tw14092592580803898357 : True := .intro
theorem tw12436211712093857505 : True := .intro
theorem tw15488351292470374115 : True := .intro
theorem tw12558830323977513937 : True := .intro
theorem tw13621262902484102087 : True := .intro
theorem tw9028386707631607861 : True := .intro
theorem tw10894508986729996427 : True := .intro
theorem tw786603640369128234 : True := .intro
theorem tw14292413347661454078 : True := .intro
theorem tw15604393547668970748 : True := .intro
theorem tw7074450606010229014 : True := .intro
theorem tw16079131267323837747 : True := .intro
theorem tw4573817479183209678 : True := .intro
theorem tw3730666149174538530 : True := .intro
theorem tw17565922748938133238 : True := .intro
theorem tw4574546353401777443 : True := .intro
theorem tw14333679811287530890 : True := .intro
theorem tw15021909908012809721 : True := .intro
theorem tw1154770678332394817 : True := .intro
theorem tw954543341303776648 : True := .intro
theorem tw10720917959084405499 : True := .intro
theorem tw768058512230901286 : True := .intro
theorem tw3532875199204462552 : True := .intro
theorem tw13789040016178099452 : True := .intro
theorem tw1724948529241871206 : True := .intro
theorem tw3880797222282904879 : True := .intro
theorem tw8625989369821545932 : True := .intro
theorem tw10520538142627928083 : True := .intro
theorem tw15121614965724090123 : True := .intro
theorem tw2032274610218344155 : True := .intro
theorem tw9021120480535293330 : True := .intro
theorem tw8056535988599804885 : True := .intro
theorem tw12868674813276726819 : True := .intro
theorem tw13991294276897100985 : True := .intro
theorem tw299069043677152241 : True := .intro
theorem tw6745736941056482328 : True := .intro
theorem tw14018359105573450290 : True := .intro
theorem tw10456824689488977849 : True := .intro
theorem tw15594075150071049898 : True := .intro
theorem tw15471023646301855977 : True := .intro
theorem tw15578406141267232903 : True := .intro
theorem tw6167138064061701251 : True := .intro
theorem tw10854381825886172047 : True := .intro
theorem tw4813061755616391522 : True := .intro
theorem tw17770114927711742603 : True := .intro
theorem tw9810670088052083301 : True := .intro
theorem tw9368377337039859495 : True := .intro
theorem tw3141536393944960564 : True := .intro
theorem tw18315854011816566115 : True := .intro
theorem tw3142652067245242306 : True := .intro
theorem tw1934272221083771065 : True := .intro
theorem tw14732508001049963677 : True := .intro
theorem tw4266998150577167549 : True := .intro
theorem tw7563121458713879361 : True := .intro
theorem tw4916771901493667579 : True := .intro
theorem tw17907034027850128318 : True := .intro
theorem tw14929779240563246555 : True := .intro
theorem tw8618973111030892907 : True := .intro
theorem tw12383698334998956700 : True := .intro
theorem tw1922137329943343146 : True := .intro
theorem tw2263805816483933722 : True := .intro
theorem tw1024503704031261740 : True := .intro
theorem tw13628033134323089245 : True := .intro
theorem tw752749870629196999 : True := .intro
theorem tw2424825859145469760 : True := .intro
theorem tw6215249691479220618 : True := .intro
theorem tw12165843682157631281 : True := .intro
theorem tw2434643340539262310 : True := .intro
theorem tw8179312766189588651 : True := .intro
theorem tw10722863108562923576 : True := .intro
theorem tw13073907794433839411 : True := .intro
theorem tw10021798399663879283 : True := .intro
theorem tw8831968853173453743 : True := .intro
theorem tw3330588107161844262 : True := .intro
theorem tw7151805857225064404 : True := .intro
theorem tw5737176173175872421 : True := .intro
theorem tw4618309079117268653 : True := .intro
theorem tw12077906973096319253 : True := .intro
theorem tw16252014403523203803 : True := .intro
theorem tw9975250790650630970 : True := .intro
theorem tw16915697480501482 : True := .intro
theorem tw12404371009497551710 : True := .intro
theorem tw14591308145190733275 : True := .intro
theorem tw10541028184816143680 : True := .intro
theorem tw16096815900439438739 : True := .intro
theorem tw12606740062694938633 : True := .intro
theorem tw14325904209737801945 : True := .intro
theorem tw5734013852455440699 : True := .intro
theorem tw4786495319819226103 : True := .intro
theorem tw14070152669866858223 : True := .intro
theorem tw7551950229110752052 : True := .intro
theorem tw12926195941579181656 : True := .intro
theorem tw4479734726377086827 : True := .intro
theorem tw10573222349107095462 : True := .intro
theorem tw17131433813685464278 : True := .intro
theorem tw16850847530655960395 : True := .intro
theorem tw6989172806844226660 : True := .intro
theorem tw16644617242233790265 : True := .intro
theorem tw792146464810947859 : True := .intro
theorem tw14355608381882372480 : True := .intro
theorem tw6245330532496877455 : True := .intro
theorem tw4928010059080476030 : True := .intro
theorem tw5015706817728603425 : True := .intro
theorem tw4394462755800302570 : True := .intro
theorem tw579397127317710928 : True := .intro
theorem tw6842570500692418292 : True := .intro
theorem tw17242438452925369177 : True := .intro
theorem tw719473615438583107 : True := .intro
theorem tw18070458485136613642 : True := .intro
theorem tw17041309767189683171 : True := .intro
theorem tw16939945409836058098 : True := .intro
theorem tw7307191048968165962 : True := .intro
theorem tw14316521550784340552 : True := .intro
theorem tw12956912489091652026 : True := .intro
theorem tw14594778764202907881 : True := .intro
theorem tw8877825660195057522 : True := .intro
theorem tw8343797893661024872 : True := .intro
theorem tw4215413063584645987 : True := .intro
theorem tw14770820048229704633 : True := .intro
theorem tw4650900294147665215 : True := .intro
theorem tw17526906131765882461 : True := .intro
theorem tw14658658189628859002 : True := .intro
theorem tw3975897575327201114 : True := .intro
theorem tw9326584294211066745 : True := .intro
theorem tw10697836754171727834 : True := .intro
theorem tw10010337213905303308 : True := .intro
theorem tw16434914009611151655 : True := .intro
theorem tw10481042402966563165 : True := .intro
theorem tw1991820427741323311 : True := .intro
theorem tw8996250326820858065 : True := .intro
theorem tw18196360369418584189 : True := .intro
theorem tw16570439690875407789 : True := .intro
theorem tw16163302596805297968 : True := .intro
theorem tw6792919294363516052 : True := .intro
theorem tw3183668626052921563 : True := .intro
theorem tw14274401454312686865 : True := .intro
theorem tw17259664839110659485 : True := .intro
theorem tw3788248823174360445 : True := .intro
theorem tw17995563508777668594 : True := .intro
theorem tw9819438945777119649 : True := .intro
theorem tw11328588541590975439 : True := .intro
theorem tw4165039085197058529 : True := .intro
theorem tw4211196206951363011 : True := .intro
theorem tw16196491746982202296 : True := .intro
theorem tw5684193952763701874 : True := .intro
theorem tw4427908996771452939 : True := .intro
theorem tw3567304404168973827 : True := .intro
theorem tw862241305847947185 : True := .intro
theorem tw13104135139469112817 : True := .intro
theorem tw9978462298470715627 : True := .intro
theorem tw2157558945977038326 : True := .intro
theorem tw5966855772803925962 : True := .intro
theorem tw2433114547462683542 : True := .intro
theorem tw15057479103343988675 : True := .intro
theorem tw18379593303248382441 : True := .intro
theorem tw14464990344444335389 : True := .intro
theorem tw5001773246733231003 : True := .intro
theorem tw17249784354517045317 : True := .intro
theorem tw5308323779929895634 : True := .intro
theorem tw16754028157855336284 : True := .intro
theorem tw18386923097080652167 : True := .intro
theorem tw6106630461199463028 : True := .intro
theorem tw15104386267402296746 : True := .intro
theorem tw3708657693668983185 : True := .intro
theorem tw6118096621615894139 : True := .intro
theorem tw1090469760044515291 : True := .intro
theorem tw1266048610983252214 : True := .intro
theorem tw6301862255658211071 : True := .intro
theorem tw14992280178398089554 : True := .intro
theorem tw6069867778779542277 : True := .intro
theorem tw10233776143843643289 : True := .intro
theorem tw10914883758409243314 : True := .intro
theorem tw8905287326925629344 : True := .intro
theorem tw5709264974088977109 : True := .intro
theorem tw10002890921045116275 : True := .intro
theorem tw16367652904874134646 : True := .intro
theorem tw11441885445007199422 : True := .intro
theorem tw11523471202647066352 : True := .intro
theorem tw12824202502382201946 : True := .intro
theorem tw16365272358360074959 : True := .intro
theorem tw16858142137643951768 : True := .intro
theorem tw3895693813322850420 : True := .intro
theorem tw12841536238495982891 : True := .intro
theorem tw9800797844213335361 : True := .intro
theorem tw10569621253824154476 : True := .intro
theorem tw5919738652804493077 : True := .intro
theorem tw16135699619977622062 : True := .intro
theorem tw15202319916361375280 : True := .intro
theorem tw5480168189088512757 : True := .intro
theorem tw4687321230095576025 : True := .intro
theorem tw2011691252872187553 : True := .intro
theorem tw12190441196529197883 : True := .intro
theorem tw13406414195683944464 : True := .intro
theorem tw10374500586752241967 : True := .intro
theorem tw6802813750964926870 : True := .intro
theorem tw1277662142673952029 : True := .intro
theorem tw14859301131607203514 : True := .intro
theorem tw15089186602517839870 : True := .intro
theorem tw2252558235762150013 : True := .intro
theorem tw9485980246035306748 : True := .intro
theorem tw8166051995358312057 : True := .intro
theorem tw3349000248972831164 : True := .intro
theorem tw10903907733891835937 : True := .intro
theorem tw17823826457948244225 : True := .intro
theorem tw2383436237120110493 : True := .intro
theorem tw606142787058224186 : True := .intro
theorem tw11811499305974223695 : True := .intro
theorem tw14602909439337654692 : True := .intro
theorem tw12319943485800151672 : True := .intro
theorem tw886679688814668436 : True := .intro
theorem tw17929658251851959428 : True := .intro
theorem tw16573894543787627001 : True := .intro
theorem tw12279894702587681463 : True := .intro
theorem tw671431845512287279 : True := .intro
theorem tw6972378072673742232 : True := .intro
theorem tw10523092346224498487 : True := .intro
theorem tw11646410338607394523 : True := .intro
theorem tw5015523680643189 : True := .intro
theorem tw13611741948784876469 : True := .intro
theorem tw5164569635181332597 : True := .intro
theorem tw12031076008285601734 : True := .intro
theorem tw8866894360122192689 : True := .intro
theorem tw2541332861907454571 : True := .intro
theorem tw10484458815669816908 : True := .intro
theorem tw338537178197496957 : True := .intro
theorem tw8643079185386354875 : True := .intro
theorem tw6934648202954241582 : True := .intro
theorem tw14455207211011768203 : True := .intro
theorem tw3175977386590478403 : True := .intro
theorem tw110775855712616383 : True := .intro
theorem tw5541007526791894552 : True := .intro
theorem tw12578250299551223171 : True := .intro
theorem tw11671595463543755357 : True := .intro
theorem tw7303192552918797931 : True := .intro
theorem tw17676669351681394271 : True := .intro
theorem tw1668017416839632920 : True := .intro
theorem tw15922559690992840232 : True := .intro
theorem tw9604642022768376965 : True := .intro
theorem tw3796088164231731489 : True := .intro
theorem tw7621439403307071642 : True := .intro
theorem tw5498499325967065471 : True := .intro
theorem tw2649880535607932347 : True := .intro
theorem tw10459402089504095879 : True := .intro
theorem tw8875482717568738264 : True := .intro
theorem tw7388745877451748538 : True := .intro
theorem tw9278975628190011576 : True := .intro
theorem tw3097923722379969792 : True := .intro
theorem tw8302575949521359335 : True := .intro
theorem tw14286003463047430000 : True := .intro
theorem tw11352749116799398655 : True := .intro
theorem tw17340285831685183892 : True := .intro
theorem tw6873565198164486086 : True := .intro
theorem tw6258211493698343268 : True := .intro
theorem tw8781293636358292797 : True := .intro
theorem tw16292576778430543682 : True := .intro
theorem tw957769339709231723 : True := .intro
theorem tw3390955280560829705 : True := .intro
theorem tw2420578292424409589 : True := .intro
theorem tw7619646550473708089 : True := .intro
theorem tw1986521047324698187 : True := .intro
theorem tw1127680219637995117 : True := .intro
theorem tw6130565179679394891 : True := .intro
theorem tw16385811651702683519 : True := .intro
theorem tw1990947155588855810 : True := .intro
theorem tw12936176833261568239 : True := .intro
theorem tw17748250662529776422 : True := .intro
theorem tw16937487249330237644 : True := .intro
theorem tw16513796948825553661 : True := .intro
theorem tw18341831521767921943 : True := .intro
theorem tw17384870838113642514 : True := .intro
theorem tw5462778849047931671 : True := .intro
theorem tw6396513805073110846 : True := .intro
theorem tw11525926062309993738 : True := .intro
theorem tw16066399522790810288 : True := .intro
theorem tw9089301584755689954 : True := .intro
theorem tw9540322066863795317 : True := .intro
theorem tw1000498062776160303 : True := .intro
theorem tw6430929453579607295 : True := .intro
theorem tw14745640459659169437 : True := .intro
theorem tw15120098520748073869 : True := .intro
theorem tw8352773801801694461 : True := .intro
theorem tw4557155190026542893 : True := .intro
theorem tw4577684382076356400 : True := .intro
theorem tw13523138793182135390 : True := .intro
theorem tw1717198729193750962 : True := .intro
theorem tw7498991045993035417 : True := .intro
theorem tw1591757260086898876 : True := .intro
theorem tw1195599883788704354 : True := .intro
theorem tw8630551785750497973 : True := .intro
theorem tw16891070136430865219 : True := .intro
theorem tw16929133777799410649 : True := .intro
theorem tw7188387228548602541 : True := .intro
theorem tw9422593421558136519 : True := .intro
theorem tw10054189094779792368 : True := .intro
theorem tw15011798230976282945 : True := .intro
theorem tw18029812673325431438 : True := .intro
theorem tw16508206932383702890 : True := .intro
theorem tw8955702055340715185 : True := .intro
theorem tw2624673060801577505 : True := .intro
theorem tw2571878478950070878 : True := .intro
theorem tw12025324964500703440 : True := .intro
theorem tw7869667793703554080 : True := .intro
theorem tw14857761947922104988 : True := .intro
theorem tw3465522139370987500 : True := .intro
theorem tw6923262383261568889 : True := .intro
theorem tw10304508597580745276 : True := .intro
theorem tw11145813411106403001 : True := .intro
theorem tw10805077291072253877 : True := .intro
theorem tw1238992164553430974 : True := .intro
theorem tw14102208290819718535 : True := .intro
theorem tw9464556980167968047 : True := .intro
theorem tw632120951014313622 : True := .intro
theorem tw5721399725323122743 : True := .intro
theorem tw17541326366712234688 : True := .intro
theorem tw14414559403088577033 : True := .intro
theorem tw15675147129522432045 : True := .intro
theorem tw1007559254254210459 : True := .intro
theorem tw10228205003414134835 : True := .intro
theorem tw15718343046703190608 : True := .intro
theorem tw2519426082676608636 : True := .intro
theorem tw11334204059732377254 : True := .intro
theorem tw6948880414809750463 : True := .intro
theorem tw8019324277601464411 : True := .intro
theorem tw6695830700901352037 : True := .intro
theorem tw3820084160194624743 : True := .intro
theorem tw6665993127268749752 : True := .intro
theorem tw2053355504513220596 : True := .intro
theorem tw15771184662712372279 : True := .intro
theorem tw4756349264903351449 : True := .intro
theorem tw9548466884881296162 : True := .intro
theorem tw8290444185159878936 : True := .intro
theorem tw6673864088212602155 : True := .intro
theorem tw17209160777816237454 : True := .intro
theorem tw12938698348405947098 : True := .intro
theorem tw16301923681971217747 : True := .intro
theorem tw2757829907275278247 : True := .intro
theorem tw15343018323653306139 : True := .intro
theorem tw5408864842131927566 : True := .intro
theorem tw16825343775470517713 : True := .intro
theorem tw16683155698449399247 : True := .intro
theorem tw3365985828945603440 : True := .intro
theorem tw13194177668551635386 : True := .intro
theorem tw1398478210906542543 : True := .intro
theorem tw16499012204437151516 : True := .intro
theorem tw2617765449260518877 : True := .intro
theorem tw9914129385016434949 : True := .intro
theorem tw14404733272504450161 : True := .intro
theorem tw1041698203318313714 : True := .intro
theorem tw16682115687855047984 : True := .intro
theorem tw11615665876244815381 : True := .intro
theorem tw13592182472819178489 : True := .intro
theorem tw16484950636222078507 : True := .intro
theorem tw15342659270490963271 : True := .intro
theorem tw12686396562201295135 : True := .intro
theorem tw11444231349379454677 : True := .intro
theorem tw15090391337071306381 : True := .intro
theorem tw9787118154916642617 : True := .intro
theorem tw4413433045584703059 : True := .intro
theorem tw10624730168051521043 : True := .intro
theorem tw15830879321981687304 : True := .intro
theorem tw609333218798163758 : True := .intro
theorem tw2856797570051300276 : True := .intro
theorem tw4366563047825879405 : True := .intro
theorem tw14540819050221609384 : True := .intro
theorem tw14170582949733213911 : True := .intro
theorem tw9821238659557959565 : True := .intro
theorem tw11071967186419280023 : True := .intro
theorem tw10612951059779176689 : True := .intro
theorem tw16905853136779678065 : True := .intro
theorem tw6732511450448466161 : True := .intro
theorem tw3549328828707628260 : True := .intro
theorem tw8403067656447224109 : True := .intro
theorem tw3812434094172548696 : True := .intro
theorem tw11882864672125359946 : True := .intro
theorem tw9737120742522924952 : True := .intro
theorem tw3369384381363300082 : True := .intro
theorem tw16551901251480142722 : True := .intro
theorem tw1340951780485995870 : True := .intro
theorem tw18141094540276239651 : True := .intro
theorem tw7213032156376540302 : True := .intro
theorem tw10496341079417698187 : True := .intro
theorem tw4872968387085965794 : True := .intro
theorem tw16864615210915790086 : True := .intro
theorem tw17585777959821977799 : True := .intro
theorem tw2676583847681333801 : True := .intro
theorem tw14716622336227627178 : True := .intro
theorem tw7937137078993608814 : True := .intro
theorem tw17993090411705086304 : True := .intro
theorem tw11184057097907335441 : True := .intro
theorem tw17921308470386258448 : True := .intro
theorem tw14149359487959405753 : True := .intro
theorem tw12887162467103906228 : True := .intro
theorem tw11390013358911470500 : True := .intro
theorem tw6068187092645470102 : True := .intro
theorem tw6655321786428263374 : True := .intro
theorem tw5753294862924796475 : True := .intro
theorem tw1099545179879063276 : True := .intro
theorem tw3094141767911582977 : True := .intro
theorem tw12930600099419252293 : True := .intro
theorem tw12907340900752559501 : True := .intro
theorem tw14204054259957656238 : True := .intro
theorem tw12870433323343286695 : True := .intro
theorem tw2108945433856349340 : True := .intro
theorem tw11244634336012673075 : True := .intro
theorem tw4214927871200868462 : True := .intro
theorem tw14384459484095359877 : True := .intro
theorem tw6510733465505043864 : True := .intro
theorem tw5667927944292468667 : True := .intro
theorem tw5852268493977977148 : True := .intro
theorem tw3310917446355820811 : True := .intro
theorem tw13501905180743587442 : True := .intro
theorem tw11998822530172558783 : True := .intro
theorem tw11999368707932493127 : True := .intro
theorem tw587316327557861301 : True := .intro
theorem tw1914085597908997133 : True := .intro
theorem tw4835787165291171921 : True := .intro
theorem tw11903675262870479961 : True := .intro
theorem tw10752795586388339834 : True := .intro
theorem tw13881584859290522625 : True := .intro
theorem tw6732635236500148320 : True := .intro
theorem tw11371147241736922809 : True := .intro
theorem tw5660066955276830890 : True := .intro
theorem tw12079273543321362028 : True := .intro
theorem tw6545612426415734601 : True := .intro
theorem tw14315610382395046828 : True := .intro
theorem tw7192803034078124071 : True := .intro
theorem tw8051919783829575546 : True := .intro
theorem tw7758266123250002843 : True := .intro
theorem tw9751105856445679155 : True := .intro
theorem tw10068179616760700430 : True := .intro
theorem tw10887584114007148246 : True := .intro
theorem tw10542960222842346445 : True := .intro
theorem tw4496523787240137965 : True := .intro
theorem tw11555190264896993278 : True := .intro
theorem tw9205439767766811263 : True := .intro
theorem tw2215269555175380833 : True := .intro
theorem tw11569788398130101149 : True := .intro
theorem tw1630330908487269687 : True := .intro
theorem tw10927956722523930583 : True := .intro
theorem tw3717760293865400271 : True := .intro
theorem tw8540523319097035635 : True := .intro
theorem tw14198748399387155690 : True := .intro
theorem tw11625322431553997741 : True := .intro
theorem tw14965047666026248565 : True := .intro
theorem tw11190216449250275804 : True := .intro
theorem tw6907140744621978023 : True := .intro
theorem tw8155433348396733404 : True := .intro
theorem tw10682038529219404702 : True := .intro
theorem tw13270353728181476807 : True := .intro
theorem tw16903585817070133918 : True := .intro
theorem tw17686930297154468616 : True := .intro
theorem tw14886211831245883588 : True := .intro
theorem tw6395079188627508803 : True := .intro
theorem tw9564496530279514659 : True := .intro
theorem tw12150369620792023917 : True := .intro
theorem tw585135612261498185 : True := .intro
theorem tw8407261310515294628 : True := .intro
theorem tw6186596949928575940 : True := .intro
theorem tw4832987080010207634 : True := .intro
theorem tw15627270589573248724 : True := .intro
theorem tw8015245041150386852 : True := .intro
theorem tw3512187807342752579 : True := .intro
theorem tw6280720936855251581 : True := .intro
theorem tw11943705824902935148 : True := .intro
theorem tw11761569069144877434 : True := .intro
theorem tw2690203334957426430 : True := .intro
theorem tw17016679693794349769 : True := .intro
theorem tw15726844357013029672 : True := .intro
theorem tw1771421439415861210 : True := .intro
theorem tw17320982965044631472 : True := .intro
theorem tw4271224588248748739 : True := .intro
theorem tw18048076631176997764 : True := .intro
theorem tw15823944134730322097 : True := .intro
theorem tw1703064187185229352 : True := .intro
theorem tw13269199358984140942 : True := .intro
theorem tw1901944630078760166 : True := .intro
theorem tw15084657752350715705 : True := .intro
theorem tw2363085729943346996 : True := .intro
theorem tw519603142133328003 : True := .intro
theorem tw14034933259238756279 : True := .intro
theorem tw3977040401268129684 : True := .intro
theorem tw5247107027873785975 : True := .intro
theorem tw13205623410763349594 : True := .intro
theorem tw1748724419914794827 : True := .intro
theorem tw10905196272056980197 : True := .intro
theorem tw1953308304998291876 : True := .intro
theorem tw14121135598568792477 : True := .intro
theorem tw17232183890830117762 : True := .intro
theorem tw4846611143392168063 : True := .intro
theorem tw2278758856067467917 : True := .intro
theorem tw9361530169300095178 : True := .intro
theorem tw13548320509730606330 : True := .intro
theorem tw2275072138036088077 : True := .intro
theorem tw16448001041042158227 : True := .intro
theorem tw5619146361029217333 : True := .intro
theorem tw9513892395909085270 : True := .intro
theorem tw4288301477819329470 : True := .intro
theorem tw2670345665772263001 : True := .intro
theorem tw10741488674594934139 : True := .intro
theorem tw15063517672237597217 : True := .intro
theorem tw7202970549946175799 : True := .intro
theorem tw10646200848302753403 : True := .intro
theorem tw324760052319021225 : True := .intro
theorem tw1270051851527582840 : True := .intro
theorem tw13119916421093233573 : True := .intro
theorem tw13711758833036116022 : True := .intro
theorem tw3001946732152388991 : True := .intro
theorem tw7003568501081556841 : True := .intro
theorem tw15373069609292628727 : True := .intro
theorem tw765210308449323448 : True := .intro
theorem tw1154202829414078876 : True := .intro
theorem tw6198131288424167660 : True := .intro
theorem tw758285083215001619 : True := .intro
theorem tw16489491868399246503 : True := .intro
theorem tw17148856886062609222 : True := .intro
theorem tw238174882469791752 : True := .intro
theorem tw236880911621155253 : True := .intro
theorem tw2354570596238577226 : True := .intro
theorem tw9746809076801943622 : True := .intro
theorem tw16131675344665175191 : True := .intro
theorem tw16620393951965717091 : True := .intro
theorem tw7584988048530394375 : True := .intro
theorem tw1950828715144287893 : True := .intro
theorem tw17398499132879077384 : True := .intro
theorem tw3127318527993295028 : True := .intro
theorem tw3283124277600911689 : True := .intro
theorem tw16300584668361928330 : True := .intro
theorem tw5402564919458237072 : True := .intro
theorem tw12337763561226815640 : True := .intro
theorem tw4729595599431399536 : True := .intro
theorem tw12701458692299183326 : True := .intro
theorem tw3187028929222299649 : True := .intro
theorem tw9435637809299902917 : True := .intro
theorem tw13506363389414291596 : True := .intro
theorem tw15782003308347037524 : True := .intro
theorem tw17578789966366771271 : True := .intro
theorem tw6710855146203363190 : True := .intro
theorem tw14629800217315146410 : True := .intro
theorem tw3903293062228946054 : True := .intro
theorem tw7190894642385689285 : True := .intro
theorem tw16053943127469044129 : True := .intro
theorem tw10488247514932356832 : True := .intro
theorem tw11171524508785414187 : True := .intro
theorem tw6988908065564936578 : True := .intro
theorem tw8951812620970214517 : True := .intro
theorem tw14168129338928819194 : True := .intro
theorem tw6642871802206858871 : True := .intro
theorem tw5243356760288635079 : True := .intro
theorem tw10986544393983720791 : True := .intro
theorem tw1326613143416378136 : True := .intro
theorem tw17164455450776021489 : True := .intro
theorem tw1095507337425925482 : True := .intro
theorem tw6064067610816279528 : True := .intro
theorem tw11682763358570127985 : True := .intro
theorem tw11226954386343828662 : True := .intro
theorem tw4205573139268742131 : True := .intro
theorem tw6852432881096783992 : True := .intro
theorem tw8520033308420302594 : True := .intro
theorem tw11813310984162930250 : True := .intro
theorem tw6423179270661564178 : True := .intro
theorem tw17913719844735184392 : True := .intro
theorem tw9618313419288084257 : True := .intro
theorem tw13858276308240897355 : True := .intro
theorem tw12391825047219832741 : True := .intro
theorem tw13771117884228668959 : True := .intro
theorem tw4465042573143919690 : True := .intro
theorem tw10218038675230016303 : True := .intro
theorem tw7605257730797163210 : True := .intro
theorem tw10461195927243582038 : True := .intro
theorem tw11358369737055999132 : True := .intro
theorem tw2269630363952607683 : True := .intro
theorem tw15879004632922332976 : True := .intro
theorem tw14608995310362128703 : True := .intro
theorem tw8204896169287282492 : True := .intro
theorem tw8771875354451359027 : True := .intro
theorem tw17741797685355157642 : True := .intro
theorem tw5584745913683844585 : True := .intro
theorem tw10948676032173431448 : True := .intro
theorem tw5314532218628765348 : True := .intro
theorem tw9580787758771727937 : True := .intro
theorem tw17106608328047421418 : True := .intro
theorem tw14625109623754155611 : True := .intro
theorem tw3195000177055042168 : True := .intro
theorem tw131473973410701267 : True := .intro
theorem tw7161276143246707283 : True := .intro
theorem tw170084431849227916 : True := .intro
theorem tw10724938120802608640 : True := .intro
theorem tw6508505899528628093 : True := .intro
theorem tw10405894041348229783 : True := .intro
theorem tw6803043118963567273 : True := .intro
theorem tw12611393267017492320 : True := .intro
theorem tw16902092904146950308 : True := .intro
theorem tw5746881761726990028 : True := .intro
theorem tw6316475206310593420 : True := .intro
theorem tw17481965963057651041 : True := .intro
theorem tw9935908850365726068 : True := .intro
theorem tw2297208642671787106 : True := .intro
theorem tw1365381789609222595 : True := .intro
theorem tw7817766876745278762 : True := .intro
theorem tw2188017213749339214 : True := .intro
theorem tw5712309569474626452 : True := .intro
theorem tw18028986986709037461 : True := .intro
theorem tw12303539042339160765 : True := .intro
theorem tw17993405401378560639 : True := .intro
theorem tw17899561860650144355 : True := .intro
theorem tw8097627595678539240 : True := .intro
theorem tw9720165104431530428 : True := .intro
theorem tw17242631960170146405 : True := .intro
theorem tw9063561486879360849 : True := .intro
theorem tw16698620120033431702 : True := .intro
theorem tw11233583463972179847 : True := .intro
theorem tw10037159091028743838 : True := .intro
theorem tw3738752845623589372 : True := .intro
theorem tw13347929417112051633 : True := .intro
theorem tw10219160016677918336 : True := .intro
theorem tw4954552709225259146 : True := .intro
theorem tw11299204331340734669 : True := .intro
theorem tw7712578992508981545 : True := .intro
theorem tw12578913683054463902 : True := .intro
theorem tw2875399549183586459 : True := .intro
theorem tw3134504031180792657 : True := .intro
theorem tw3488448152177911652 : True := .intro
theorem tw6721147862035957799 : True := .intro
theorem tw13496384393135551233 : True := .intro
theorem tw4594254235673972860 : True := .intro
theorem tw4268237918930088358 : True := .intro
theorem tw4129306398115449536 : True := .intro
theorem tw6519986739916757895 : True := .intro
theorem tw2262064841418382948 : True := .intro
theorem tw2946291796414404773 : True := .intro
theorem tw7292196465211906932 : True := .intro
theorem tw14972747140743258177 : True := .intro
theorem tw12091340131161865774 : True := .intro
theorem tw11537451759424267228 : True := .intro
theorem tw37026974861141365 : True := .intro
theorem tw7861094131708397283 : True := .intro
theorem tw11577292817081720153 : True := .intro
theorem tw18306007341826637693 : True := .intro
theorem tw367354118245180755 : True := .intro
theorem tw9738335170594609481 : True := .intro
theorem tw13886876430716029026 : True := .intro
theorem tw15651133690930789440 : True := .intro
theorem tw13534468710647766931 : True := .intro
theorem tw5474362081604809077 : True := .intro
theorem tw15371483640141770809 : True := .intro
theorem tw6056739821048835906 : True := .intro
theorem tw7423959573629769225 : True := .intro
theorem tw10693897320104827265 : True := .intro
theorem tw17548272234707364526 : True := .intro
theorem tw279484293013343027 : True := .intro
theorem tw11875980683341758735 : True := .intro
theorem tw11004864500193963600 : True := .intro
theorem tw7306302835843082746 : True := .intro
theorem tw257647946563642574 : True := .intro
theorem tw1292597827783088360 : True := .intro
theorem tw12260550628672714185 : True := .intro
theorem tw10112903371891884256 : True := .intro
theorem tw16158460474182154190 : True := .intro
theorem tw3509132572656321564 : True := .intro
theorem tw7649299623840827557 : True := .intro
theorem tw13713615969013741674 : True := .intro
theorem tw16288319770179315553 : True := .intro
theorem tw10431721542461148038 : True := .intro
theorem tw12849393709228539694 : True := .intro
theorem tw10404940153492945748 : True := .intro
theorem tw17453404805745902912 : True := .intro
theorem tw3298407983220703269 : True := .intro
theorem tw5566416537658801982 : True := .intro
theorem tw9458628436319135609 : True := .intro
theorem tw1686489466838694742 : True := .intro
theorem tw10545680676888878982 : True := .intro
theorem tw12473071520093284951 : True := .intro
theorem tw13787770965499465457 : True := .intro
theorem tw6632872830644368711 : True := .intro
theorem tw12317247858072373902 : True := .intro
theorem tw15916630224248034153 : True := .intro
theorem tw15649025456451222784 : True := .intro
theorem tw17329093225492668179 : True := .intro
theorem tw2722293111975782379 : True := .intro
theorem tw4975433442567350848 : True := .intro
theorem tw16742454318379705539 : True := .intro
theorem tw12774470159979612719 : True := .intro
theorem tw4494640271380882409 : True := .intro
theorem tw10404469628186450025 : True := .intro
theorem tw9736032713214354657 : True := .intro
theorem tw18015049137594387023 : True := .intro
theorem tw6472062608692896165 : True := .intro
theorem tw12374185712894942475 : True := .intro
theorem tw14423416393755676389 : True := .intro
theorem tw3602651758635103622 : True := .intro
theorem tw8266838393616008431 : True := .intro
theorem tw8955462028281293085 : True := .intro
theorem tw11193403013336774732 : True := .intro
theorem tw11197409431853033734 : True := .intro
theorem tw8246401493721955610 : True := .intro
theorem tw14832209433637625815 : True := .intro
theorem tw1753490706066677038 : True := .intro
theorem tw3805622211648603596 : True := .intro
theorem tw3864208683109991345 : True := .intro
theorem tw5750745661471968627 : True := .intro
theorem tw334888359060106346 : True := .intro
theorem tw8090257485887641273 : True := .intro
theorem tw716652256643518394 : True := .intro
theorem tw11934723914704429166 : True := .intro
theorem tw16098390601921907033 : True := .intro
theorem tw17649776832539094051 : True := .intro
theorem tw10639858164625527254 : True := .intro
theorem tw7138254695214624538 : True := .intro
theorem tw395330880800379182 : True := .intro
theorem tw14791056568959091845 : True := .intro
theorem tw3715120354615141905 : True := .intro
theorem tw14737065984762582424 : True := .intro
theorem tw3760465772163797638 : True := .intro
theorem tw11783577260192603436 : True := .intro
theorem tw17080415274623878208 : True := .intro
theorem tw9445107198328699865 : True := .intro
theorem tw11215627099118925416 : True := .intro
theorem tw1075692190495840736 : True := .intro
theorem tw15204484080312648155 : True := .intro
theorem tw13468574531626420706 : True := .intro
theorem tw11578667336985290729 : True := .intro
theorem tw438688119934054581 : True := .intro
theorem tw13888710220077372198 : True := .intro
theorem tw6722750110646058061 : True := .intro
theorem tw15999772544970021987 : True := .intro
theorem tw4314792599795489432 : True := .intro
theorem tw3716021129313958065 : True := .intro
theorem tw15465405317932659374 : True := .intro
theorem tw2330529210866530022 : True := .intro
theorem tw3962919248138128927 : True := .intro
theorem tw10802795350326297569 : True := .intro
theorem tw15759304008336892990 : True := .intro
theorem tw15529408857200963134 : True := .intro
theorem tw425546970851045598 : True := .intro
theorem tw7754156294963194096 : True := .intro
theorem tw1217812938661270164 : True := .intro
theorem tw17887001746532478764 : True := .intro
theorem tw2417306310346457247 : True := .intro
theorem tw11574399793406695141 : True := .intro
theorem tw4939272569367356190 : True := .intro
theorem tw2446544931895921561 : True := .intro
theorem tw6026936499230676099 : True := .intro
theorem tw1626104060436895186 : True := .intro
theorem tw6830648781918840608 : True := .intro
theorem tw15318291818490160012 : True := .intro
theorem tw4487218195629126931 : True := .intro
theorem tw6001048956112972292 : True := .intro
theorem tw10100256486764005559 : True := .intro
theorem tw4108988912804648164 : True := .intro
theorem tw15230779312048609605 : True := .intro
theorem tw2282846745655054438 : True := .intro
theorem tw13210899488323615305 : True := .intro
theorem tw17709828790875253357 : True := .intro
theorem tw11249565401007625739 : True := .intro
theorem tw2007380537665354031 : True := .intro
theorem tw39664051436110620 : True := .intro
theorem tw2798806956320666163 : True := .intro
theorem tw5533117320891111022 : True := .intro
theorem tw9672849611151546845 : True := .intro
theorem tw16824300839305976279 : True := .intro
theorem tw10519105137843020894 : True := .intro
theorem tw13526176922650725284 : True := .intro
theorem tw11079676050517313930 : True := .intro
theorem tw10067561216071736580 : True := .intro
theorem tw12398088927817760348 : True := .intro
theorem tw4191983575845516781 : True := .intro
theorem tw9971329469361320783 : True := .intro
theorem tw4014733133276553422 : True := .intro
theorem tw13704865136470694515 : True := .intro
theorem tw6339521925458302533 : True := .intro
theorem tw2967184022730505412 : True := .intro
theorem tw10986155055921810782 : True := .intro
theorem tw15227275213558036851 : True := .intro
theorem tw14959280397945438982 : True := .intro
theorem tw4424391932634191700 : True := .intro
theorem tw1227821261025039226 : True := .intro
theorem tw10184770113977307932 : True := .intro
theorem tw3653775985652202871 : True := .intro
theorem tw1341914771438856250 : True := .intro
theorem tw15454391675289573149 : True := .intro
theorem tw1304180928332244293 : True := .intro
theorem tw5870288563059233690 : True := .intro
theorem tw17097357367273551068 : True := .intro
theorem tw10798543931795335461 : True := .intro
theorem tw17691236690569059369 : True := .intro
theorem tw4685310138720610294 : True := .intro
theorem tw16498243424994347833 : True := .intro
theorem tw2370763192699954953 : True := .intro
theorem tw4177804486740331286 : True := .intro
theorem tw16098390163468762460 : True := .intro
theorem tw14876094972373775275 : True := .intro
theorem tw15934204688613050714 : True := .intro
theorem tw17526371187611046653 : True := .intro
theorem tw417581227012094012 : True := .intro
theorem tw17071979352923825742 : True := .intro
theorem tw17021606231903838000 : True := .intro
theorem tw17878589981118369509 : True := .intro
theorem tw15885475664366165934 : True := .intro
theorem tw6619930864097086860 : True := .intro
theorem tw14000252727157207537 : True := .intro
end PySem.W.Fast
open PySem PySem.W PyProof.Rows
set_option maxHeartbeats 0
open_top K51.hd for PySem.Challenge.rw_filerights_k51_starts
theorem PySem.Challenge.cw_filerights_k51_starts_holds : PySem.Challenge.rw_filerights_k51_starts.Holds := by
  refine K51.hd ?_
  k_fill
  refine FR.walk_ofG (l := PySem.Challenge.rw_filerights_k51_starts) (n := 63) (k := 14) (sp := fun w => K51.spLaw _) rfl (by decide) rfl ⟨rfl, by decide, by decide⟩ (fun w h Y => PySem.W.kIn_of Y) ?F (fun _ _ a ns hl _ hS => ⟨a, ns, rfl, hS, hl, fun _ => rfl⟩)
  case F =>
    intro w mg fa h KX G hmg
    refine' K51.all_mk KX G hmg ?oa0 ?opg0 ?ohd0 ?opo0 ?osa0 ?omk0 ?okc0 ?oca0 ?ocn0 ?oct0 ?ocm0 ?osf0 ?ocd0 ?omr0 ?one0 ?ona_digit0 ?onfNoneType0 ?onfbool0 ?onfint0 ?onfstr0 ?onflist0 ?onftuple0 ?onfdict0 ?ord0 ?org0 ?oic0 ?oyt0 ?oktNoneType0 ?oktbool0 ?oktint0 ?oktstr0 ?oktlist0 ?okttuple0 ?oktdict0 ?oa1 ?opg1 ?ohd1 ?opo1 ?osa1 ?omk1 ?okc1 ?oca1 ?ocn1 ?oct1 ?ocm1 ?osf1 ?ocd1 ?omr1 ?one1 ?ona_owner1 ?ona_group1 ?ona_other1 ?ona_users1 ?ona_groups1 ?ona_mask1 ?onfNoneType1 ?onfbool1 ?onfint1 ?onfstr1 ?onflist1 ?onftuple1 ?onfdict1 ?ord1 ?org1 ?oic1 ?oyt1 ?oktNoneType1 ?oktbool1 ?oktint1 ?oktstr1 ?oktlist1 ?okttuple1 ?oktdict1 ?oa2 ?opg2 ?ohd2 ?opo2 ?osa2 ?omk2 ?okc2 ?oca2 ?ocn2 ?oct2 ?ocm2 ?osf2 ?ocd2 ?omr2 ?one2 ?ona_default2 ?ona_group2 ?ona_passes2 ?ona_umask2 ?onfNoneType2 ?onfbool2 ?onfint2 ?onfstr2 ?onflist2 ?onftuple2 ?onfdict2 ?ord2 ?org2 ?oic2 ?oyt2 ?oktNoneType2 ?oktbool2 ?oktint2 ?oktstr2 ?oktlist2 ?okttuple2 ?oktdict2 ?a0 ?l0 ?c0 ?k0 ?a1 ?l1 ?c1 ?k1 ?a2 ?l2 ?c2 ?k2 ?a3 ?l3 ?c3 ?k3 ?a4 ?l4 ?c4 ?k4 ?a5 ?l5 ?c5 ?k5 ?a6 ?l6 ?c6 ?k6 ?a7 ?l7 ?c7 ?k7 ?a8 ?l8 ?c8 ?k8 ?a9 ?l9 ?c9 ?k9 ?a10 ?l10 ?c10 ?k10 ?a14 ?l14 ?c14 ?k14 ?a15 ?l15 ?c15 ?k15 ?a16 ?l16 ?c16 ?k16 ?a17 ?l17 ?c17 ?k17 ?a18 ?l18 ?c18 ?k18 ?a19 ?l19 ?c19 ?k19 ?a20 ?l20 ?c20 ?k20 ?a21 ?l21 ?c21 ?k21 ?a22 ?l22 ?c22 ?k22 ?a23 ?t23 ?l23 ?c23 ?k23 ?dl23 ?dd23 ?dv23 ?a24 ?px24 ?pf24 ?l24 ?c24 ?k24 ?a25 ?px25 ?pf25 ?l25 ?c25 ?k25 ?a26 ?pg26 ?pt26 ?px26 ?l26 ?c26 ?k26 ?a29 ?t29 ?l29 ?c29 ?k29 ?a34 ?t34 ?l34 ?c34 ?k34 ?a40 ?t40 ?l40 ?c40 ?k40 ?w40_0 ?w40_1 ?w40_2 ?a41 ?t41 ?l41 ?c41 ?k41 ?a42 ?px42 ?pf42 ?l42 ?c42 ?k42 ?a53 ?t53 ?l53 ?c53 ?k53 ?a60 ?t60 ?l60 ?c60 ?k60 ?a64 ?t64 ?l64 ?c64 ?k64 ?w64_0 ?w64_1 ?w64_2 ?w64_3 ?a65 ?pg65 ?pt65 ?px65 ?l65 ?c65 ?k65 ?a66 ?pg66 ?pt66 ?px66 ?l66 ?c66 ?k66 ?a67 ?pg67 ?pt67 ?px67 ?l67 ?c67 ?k67 ?a68 ?pg68 ?pt68 ?px68 ?l68 ?c68 ?k68 ?a69 ?t69 ?l69 ?c69 ?k69 ?a70 ?t70 ?l70 ?c70 ?k70 ?ka0 ?ka1 ?ka2 ?ka3 ?ka4 ?ka5 ?ic0 ?yt0 ?ic1 ?yt1 ?xl2 ?sa2 ?ga2 ?gg2 ?nb2 ?in2 ?ti2 ?li2 ?ci2 ?kc2 ?eb2 ?yt2 ?hd2 ?ic2 ?sc2 ?ca2 ?cn2 ?xt2 ?cm2 ?xl3 ?sa3 ?ga3 ?gg3 ?nb3 ?in3 ?ti3 ?li3 ?ci3 ?kc3 ?eb3 ?yt3 ?hd3 ?ic3 ?sc3 ?ca3 ?cn3 ?xt3 ?cm3 ?xl4 ?sa4 ?ga4 ?gg4 ?nb4 ?in4 ?ti4 ?li4 ?ci4 ?kc4 ?eb4 ?yt4 ?hd4 ?ic4 ?sc4 ?ca4 ?cn4 ?xt4 ?cm4 ?xl5 ?sa5 ?ga5 ?gg5 ?nb5 ?in5 ?ti5 ?li5 ?ci5 ?kc5 ?eb5 ?yt5 ?hd5 ?ic5 ?sc5 ?ca5 ?cn5 ?xt5 ?cm5 ?kit_InvalidList_RightsError ?kit_InvalidName_RightsError ?kit_InvalidNode_RightsError ?kit_InvalidDigits_RightsError ?kit_InvalidNode_MissingError ?exm_InvalidName_InvalidList ?exm_InvalidNode_InvalidList ?exm_InvalidNode_InvalidName ?exm_InvalidDigits_InvalidList ?exm_InvalidDigits_InvalidName ?exm_InvalidDigits_InvalidNode ?q0 ?q1 ?q2 ?q3 ?kl3 ?ky3 ?ks3 ?kq3 ?kv3_0 ?kv3_1 ?kv3_2 ?kv3_3 ?kv3_4 ?kv3_5 ?kv3_6 ?kv3_7 ?kv3_8 ?kv3_9 ?kv3_10 ?kv3_11 ?kv3_12 ?kv3_13 ?kv3_14 ?kv3_15 ?q4 ?kl4 ?ku4 ?kd4 ?kz4 ?kv4 ?q5 ?q6 ?kl6 ?ku6 ?kd6 ?kz6 ?kv6 ?q7 ?kl7 ?ku7 ?kd7 ?kz7 ?kv7 ?q8 ?kl8 ?ky8 ?ks8 ?kq8 ?kv8_0 ?kv8_1 ?kv8_2 ?kv8_3 ?kv8_4 ?kv8_5 ?z0 ?z1 ?z2 ?z3 ?z4 ?z5 ?z6 ?z7 ?z8 ?z9 ?z10 ?z11 ?z12
    (case oa0 => k_is)
    (case opg0 => k_is)
    (case ohd0 => k_is)
    (case opo0 => k_is)
    (case osa0 => k_is)
    (case omk0 => first | k_is | exact (by rfl) | exact FR.size_le (by decide) | decide | (repeat (first | exact True.intro | exact .nil | refine .cons ⟨_, rfl⟩ ?_ | refine ⟨⟨_, _, rfl, rfl⟩, ?_⟩)))
    (case okc0 => k_is)
    (case oca0 => k_is)
    (case ocn0 => k_is)
    (case oct0 => k_is)
    (case ocm0 => k_is)
    (case osf0 => k_is)
    (case ocd0 => k_is)
    (case omr0 => first | k_is | exact (by rfl) | exact FR.size_le (by decide) | decide | (repeat (first | exact True.intro | exact .nil | refine .cons ⟨_, rfl⟩ ?_ | refine ⟨⟨_, _, rfl, rfl⟩, ?_⟩)))
    (case one0 => k_is)
    (case ona_digit0 => k_is)
    (case onfNoneType0 => k_is)
    (case onfbool0 => k_is)
    (case onfint0 => k_is)
    (case onfstr0 => k_is)
    (case onflist0 => k_is)
    (case onftuple0 => k_is)
    (case onfdict0 => k_is)
    (case ord0 => k_is)
    (case org0 => k_is)
    (case oic0 => k_is)
    (case oyt0 => k_is)
    (case oktNoneType0 => k_is)
    (case oktbool0 => k_is)
    (case oktint0 => k_is)
    (case oktstr0 => k_is)
    (case oktlist0 => k_is)
    (case okttuple0 => k_is)
    (case oktdict0 => k_is)
    (case oa1 => k_is)
    (case opg1 => k_is)
    (case ohd1 => k_is)
    (case opo1 => k_is)
    (case osa1 => k_is)
    (case omk1 => first | k_is | exact (by rfl) | exact FR.size_le (by decide) | decide | (repeat (first | exact True.intro | exact .nil | refine .cons ⟨_, rfl⟩ ?_ | refine ⟨⟨_, _, rfl, rfl⟩, ?_⟩)))
    (case okc1 => k_is)
    (case oca1 => k_is)
    (case ocn1 => k_is)
    (case oct1 => k_is)
    (case ocm1 => k_is)
    (case osf1 => k_is)
    (case ocd1 => k_is)
    (case omr1 => first | k_is | exact (by rfl) | exact FR.size_le (by decide) | decide | (repeat (first | exact True.intro | exact .nil | refine .cons ⟨_, rfl⟩ ?_ | refine ⟨⟨_, _, rfl, rfl⟩, ?_⟩)))
    (case one1 => k_is)
    (case ona_owner1 => k_is)
    (case ona_group1 => k_is)
    (case ona_other1 => k_is)
    (case ona_users1 => k_is)
    (case ona_groups1 => k_is)
    (case ona_mask1 => k_is)
    (case onfNoneType1 => k_is)
    (case onfbool1 => k_is)
    (case onfint1 => k_is)
    (case onfstr1 => k_is)
    (case onflist1 => k_is)
    (case onftuple1 => k_is)
    (case onfdict1 => k_is)
    (case ord1 => k_is)
    (case org1 => k_is)
    (case oic1 => k_is)
    (case oyt1 => k_is)
    (case oktNoneType1 => k_is)
    (case oktbool1 => k_is)
    (case oktint1 => k_is)
    (case oktstr1 => k_is)
    (case oktlist1 => k_is)
    (case okttuple1 => k_is)
    (case oktdict1 => k_is)
    (case oa2 => k_is)
    (case opg2 => k_is)
    (case ohd2 => k_is)
    (case opo2 => k_is)
    (case osa2 => k_is)
    (case omk2 => first | k_is | exact (by rfl) | exact FR.size_le (by decide) | decide | (repeat (first | exact True.intro | exact .nil | refine .cons ⟨_, rfl⟩ ?_ | refine ⟨⟨_, _, rfl, rfl⟩, ?_⟩)))
    (case okc2 => k_is)
    (case oca2 => k_is)
    (case ocn2 => k_is)
    (case oct2 => k_is)
    (case ocm2 => k_is)
    (case osf2 => k_is)
    (case ocd2 => k_is)
    (case omr2 => first | k_is | exact (by rfl) | exact FR.size_le (by decide) | decide | (repeat (first | exact True.intro | exact .nil | refine .cons ⟨_, rfl⟩ ?_ | refine ⟨⟨_, _, rfl, rfl⟩, ?_⟩)))
    (case one2 => k_is)
    (case ona_default2 => k_is)
    (case ona_group2 => k_is)
    (case ona_passes2 => k_is)
    (case ona_umask2 => k_is)
    (case onfNoneType2 => k_is)
    (case onfbool2 => k_is)
    (case onfint2 => k_is)
    (case onfstr2 => k_is)
    (case onflist2 => k_is)
    (case onftuple2 => k_is)
    (case onfdict2 => k_is)
    (case ord2 => k_is)
    (case org2 => k_is)
    (case oic2 => k_is)
    (case oyt2 => k_is)
    (case oktNoneType2 => k_is)
    (case oktbool2 => k_is)
    (case oktint2 => k_is)
    (case oktstr2 => k_is)
    (case oktlist2 => k_is)
    (case okttuple2 => k_is)
    (case oktdict2 => k_is)
    (case a0 => k_is)
    (case l0 => k_is)
    (case c0 => k_is)
    (case k0 => k_is)
    (case a1 => k_is)
    (case l1 => k_is)
    (case c1 => k_is)
    (case k1 => k_is)
    (case a2 => k_is)
    (case l2 => k_is)
    (case c2 => k_is)
    (case k2 => k_is)
    (case a3 => k_is)
    (case l3 => k_is)
    (case c3 => k_is)
    (case k3 => k_is)
    (case a4 => k_is)
    (case l4 => k_is)
    (case c4 => k_is)
    (case k4 => k_is)
    (case a5 => k_is)
    (case l5 => k_is)
    (case c5 => k_is)
    (case k5 => k_is)
    (case a6 => k_is)
    (case l6 => k_is)
    (case c6 => k_is)
    (case k6 => k_is)
    (case a7 => k_is)
    (case l7 => k_is)
    (case c7 => k_is)
    (case k7 => k_is)
    (case a8 => k_is)
    (case l8 => k_is)
    (case c8 => k_is)
    (case k8 => k_is)
    (case a9 => k_is)
    (case l9 => k_is)
    (case c9 => k_is)
    (case k9 => k_is)
    (case a10 => k_is)
    (case l10 => k_is)
    (case c10 => k_is)
    (case k10 => k_is)
    (case a14 => k_is)
    (case l14 => k_is)
    (case c14 => k_is)
    (case k14 => k_is)
    (case a15 => k_is)
    (case l15 => k_is)
    (case c15 => k_is)
    (case k15 => k_is)
    (case a16 => k_is)
    (case l16 => k_is)
    (case c16 => k_is)
    (case k16 => k_is)
    (case a17 => k_is)
    (case l17 => k_is)
    (case c17 => k_is)
    (case k17 => k_is)
    (case a18 => k_is)
    (case l18 => k_is)
    (case c18 => k_is)
    (case k18 => k_is)
    (case a19 => k_is)
    (case l19 => k_is)
    (case c19 => k_is)
    (case k19 => k_is)
    (case a20 => k_is)
    (case l20 => k_is)
    (case c20 => k_is)
    (case k20 => k_is)
    (case a21 => k_is)
    (case l21 => k_is)
    (case c21 => k_is)
    (case k21 => k_is)
    (case a22 => k_is)
    (case l22 => k_is)
    (case c22 => k_is)
    (case k22 => k_is)
    (case a23 => k_is)
    (case t23 => k_is)
    (case l23 => k_is)
    (case c23 => k_is)
    (case k23 => k_is)
    (case dl23 => k_is)
    (case dd23 => first | k_is | exact (by rfl) | exact FR.size_le (by decide) | decide | (repeat (first | exact True.intro | exact .nil | refine .cons ⟨_, rfl⟩ ?_ | refine ⟨⟨_, _, rfl, rfl⟩, ?_⟩)))
    (case dv23 => first | k_is | exact (by rfl) | exact FR.size_le (by decide) | decide | (repeat (first | exact True.intro | exact .nil | refine .cons ⟨_, rfl⟩ ?_ | refine ⟨⟨_, _, rfl, rfl⟩, ?_⟩)))
    (case a24 => k_is)
    (case px24 => k_is)
    (case pf24 => k_is)
    (case l24 => k_is)
    (case c24 => k_is)
    (case k24 => k_is)
    (case a25 => k_is)
    (case px25 => k_is)
    (case pf25 => k_is)
    (case l25 => k_is)
    (case c25 => k_is)
    (case k25 => k_is)
    (case a26 => k_is)
    (case pg26 => k_is)
    (case pt26 => k_is)
    (case px26 => k_is)
    (case l26 => k_is)
    (case c26 => k_is)
    (case k26 => k_is)
    (case a29 => k_is)
    (case t29 => k_is)
    (case l29 => k_is)
    (case c29 => k_is)
    (case k29 => k_is)
    (case a34 => k_is)
    (case t34 => k_is)
    (case l34 => k_is)
    (case c34 => k_is)
    (case k34 => k_is)
    (case a40 => k_is)
    (case t40 => k_is)
    (case l40 => k_is)
    (case c40 => k_is)
    (case k40 => k_is)
    (case w40_0 => k_is)
    (case w40_1 => k_is)
    (case w40_2 => k_is)
    (case a41 => k_is)
    (case t41 => k_is)
    (case l41 => k_is)
    (case c41 => k_is)
    (case k41 => k_is)
    (case a42 => k_is)
    (case px42 => k_is)
    (case pf42 => k_is)
    (case l42 => k_is)
    (case c42 => k_is)
    (case k42 => k_is)
    (case a53 => k_is)
    (case t53 => k_is)
    (case l53 => k_is)
    (case c53 => k_is)
    (case k53 => k_is)
    (case a60 => k_is)
    (case t60 => k_is)
    (case l60 => k_is)
    (case c60 => k_is)
    (case k60 => k_is)
    (case a64 => k_is)
    (case t64 => k_is)
    (case l64 => k_is)
    (case c64 => k_is)
    (case k64 => k_is)
    (case w64_0 => k_is)
    (case w64_1 => k_is)
    (case w64_2 => k_is)
    (case w64_3 => k_is)
    (case a65 => k_is)
    (case pg65 => k_is)
    (case pt65 => k_is)
    (case px65 => k_is)
    (case l65 => k_is)
    (case c65 => k_is)
    (case k65 => k_is)
    (case a66 => k_is)
    (case pg66 => k_is)
    (case pt66 => k_is)
    (case px66 => k_is)
    (case l66 => k_is)
    (case c66 => k_is)
    (case k66 => k_is)
    (case a67 => k_is)
    (case pg67 => k_is)
    (case pt67 => k_is)
    (case px67 => k_is)
    (case l67 => k_is)
    (case c67 => k_is)
    (case k67 => k_is)
    (case a68 => k_is)
    (case pg68 => k_is)
    (case pt68 => k_is)
    (case px68 => k_is)
    (case l68 => k_is)
    (case c68 => k_is)
    (case k68 => k_is)
    (case a69 => k_is)
    (case t69 => k_is)
    (case l69 => k_is)
    (case c69 => k_is)
    (case k69 => k_is)
    (case a70 => k_is)
    (case t70 => k_is)
    (case l70 => k_is)
    (case c70 => k_is)
    (case k70 => k_is)
    (case ka0 => k_is)
    (case ka1 => k_is)
    (case ka2 => k_is)
    (case ka3 => k_is)
    (case ka4 => k_is)
    (case ka5 => k_is)
    (case ic0 => k_is)
    (case yt0 => k_is)
    (case ic1 => k_is)
    (case yt1 => k_is)
    (case xl2 => k_is)
    (case sa2 => k_is)
    (case ga2 => k_is)
    (case gg2 => k_is)
    (case nb2 => k_is)
    (case in2 => k_is)
    (case ti2 => k_is)
    (case li2 => k_is)
    (case ci2 => k_is)
    (case kc2 => k_is)
    (case eb2 => k_is)
    (case yt2 => k_is)
    (case hd2 => k_is)
    (case ic2 => k_is)
    (case sc2 => k_is)
    (case ca2 => k_is)
    (case cn2 => k_is)
    (case xt2 => k_is)
    (case cm2 => k_is)
    (case xl3 => k_is)
    (case sa3 => k_is)
    (case ga3 => k_is)
    (case gg3 => k_is)
    (case nb3 => k_is)
    (case in3 => k_is)
    (case ti3 => k_is)
    (case li3 => k_is)
    (case ci3 => k_is)
    (case kc3 => k_is)
    (case eb3 => k_is)
    (case yt3 => k_is)
    (case hd3 => k_is)
    (case ic3 => k_is)
    (case sc3 => k_is)
    (case ca3 => k_is)
    (case cn3 => k_is)
    (case xt3 => k_is)
    (case cm3 => k_is)
    (case xl4 => k_is)
    (case sa4 => k_is)
    (case ga4 => k_is)
    (case gg4 => k_is)
    (case nb4 => k_is)
    (case in4 => k_is)
    (case ti4 => k_is)
    (case li4 => k_is)
    (case ci4 => k_is)
    (case kc4 => k_is)
    (case eb4 => k_is)
    (case yt4 => k_is)
    (case hd4 => k_is)
    (case ic4 => k_is)
    (case sc4 => k_is)
    (case ca4 => k_is)
    (case cn4 => k_is)
    (case xt4 => k_is)
    (case cm4 => k_is)
    (case xl5 => k_is)
    (case sa5 => k_is)
    (case ga5 => k_is)
    (case gg5 => k_is)
    (case nb5 => k_is)
    (case in5 => k_is)
    (case ti5 => k_is)
    (case li5 => k_is)
    (case ci5 => k_is)
    (case kc5 => k_is)
    (case eb5 => k_is)
    (case yt5 => k_is)
    (case hd5 => k_is)
    (case ic5 => k_is)
    (case sc5 => k_is)
    (case ca5 => k_is)
    (case cn5 => k_is)
    (case xt5 => k_is)
    (case cm5 => k_is)
    (case kit_InvalidList_RightsError => k_is)
    (case kit_InvalidName_RightsError => k_is)
    (case kit_InvalidNode_RightsError => k_is)
    (case kit_InvalidDigits_RightsError => k_is)
    (case kit_InvalidNode_MissingError => k_is)
    (case exm_InvalidName_InvalidList => k_is)
    (case exm_InvalidNode_InvalidList => k_is)
    (case exm_InvalidNode_InvalidName => k_is)
    (case exm_InvalidDigits_InvalidList => k_is)
    (case exm_InvalidDigits_InvalidName => k_is)
    (case exm_InvalidDigits_InvalidNode => k_is)
    (case q0 => k_is)
    (case q1 => k_is)
    (case q2 => k_is)
    (case q3 => k_is)
    (case kl3 => k_is)
    (case ky3 => first | k_is | exact (by rfl) | exact FR.size_le (by decide) | decide | (repeat (first | exact True.intro | exact .nil | refine .cons ⟨_, rfl⟩ ?_ | refine ⟨⟨_, _, rfl, rfl⟩, ?_⟩)))
    (case ks3 => first | k_is | exact (by rfl) | exact FR.size_le (by decide) | decide | (repeat (first | exact True.intro | exact .nil | refine .cons ⟨_, rfl⟩ ?_ | refine ⟨⟨_, _, rfl, rfl⟩, ?_⟩)))
    (case kq3 => first | k_is | exact (by rfl) | exact FR.size_le (by decide) | decide | (repeat (first | exact True.intro | exact .nil | refine .cons ⟨_, rfl⟩ ?_ | refine ⟨⟨_, _, rfl, rfl⟩, ?_⟩)))
    (case kv3_0 => first | k_is | exact (by rfl) | exact FR.size_le (by decide) | decide | (repeat (first | exact True.intro | exact .nil | refine .cons ⟨_, rfl⟩ ?_ | refine ⟨⟨_, _, rfl, rfl⟩, ?_⟩)))
    (case kv3_1 => first | k_is | exact (by rfl) | exact FR.size_le (by decide) | decide | (repeat (first | exact True.intro | exact .nil | refine .cons ⟨_, rfl⟩ ?_ | refine ⟨⟨_, _, rfl, rfl⟩, ?_⟩)))
    (case kv3_2 => first | k_is | exact (by rfl) | exact FR.size_le (by decide) | decide | (repeat (first | exact True.intro | exact .nil | refine .cons ⟨_, rfl⟩ ?_ | refine ⟨⟨_, _, rfl, rfl⟩, ?_⟩)))
    (case kv3_3 => first | k_is | exact (by rfl) | exact FR.size_le (by decide) | decide | (repeat (first | exact True.intro | exact .nil | refine .cons ⟨_, rfl⟩ ?_ | refine ⟨⟨_, _, rfl, rfl⟩, ?_⟩)))
    (case kv3_4 => first | k_is | exact (by rfl) | exact FR.size_le (by decide) | decide | (repeat (first | exact True.intro | exact .nil | refine .cons ⟨_, rfl⟩ ?_ | refine ⟨⟨_, _, rfl, rfl⟩, ?_⟩)))
    (case kv3_5 => first | k_is | exact (by rfl) | exact FR.size_le (by decide) | decide | (repeat (first | exact True.intro | exact .nil | refine .cons ⟨_, rfl⟩ ?_ | refine ⟨⟨_, _, rfl, rfl⟩, ?_⟩)))
    (case kv3_6 => first | k_is | exact (by rfl) | exact FR.size_le (by decide) | decide | (repeat (first | exact True.intro | exact .nil | refine .cons ⟨_, rfl⟩ ?_ | refine ⟨⟨_, _, rfl, rfl⟩, ?_⟩)))
    (case kv3_7 => first | k_is | exact (by rfl) | exact FR.size_le (by decide) | decide | (repeat (first | exact True.intro | exact .nil | refine .cons ⟨_, rfl⟩ ?_ | refine ⟨⟨_, _, rfl, rfl⟩, ?_⟩)))
    (case kv3_8 => first | k_is | exact (by rfl) | exact FR.size_le (by decide) | decide | (repeat (first | exact True.intro | exact .nil | refine .cons ⟨_, rfl⟩ ?_ | refine ⟨⟨_, _, rfl, rfl⟩, ?_⟩)))
    (case kv3_9 => first | k_is | exact (by rfl) | exact FR.size_le (by decide) | decide | (repeat (first | exact True.intro | exact .nil | refine .cons ⟨_, rfl⟩ ?_ | refine ⟨⟨_, _, rfl, rfl⟩, ?_⟩)))
    (case kv3_10 => first | k_is | exact (by rfl) | exact FR.size_le (by decide) | decide | (repeat (first | exact True.intro | exact .nil | refine .cons ⟨_, rfl⟩ ?_ | refine ⟨⟨_, _, rfl, rfl⟩, ?_⟩)))
    (case kv3_11 => first | k_is | exact (by rfl) | exact FR.size_le (by decide) | decide | (repeat (first | exact True.intro | exact .nil | refine .cons ⟨_, rfl⟩ ?_ | refine ⟨⟨_, _, rfl, rfl⟩, ?_⟩)))
    (case kv3_12 => first | k_is | exact (by rfl) | exact FR.size_le (by decide) | decide | (repeat (first | exact True.intro | exact .nil | refine .cons ⟨_, rfl⟩ ?_ | refine ⟨⟨_, _, rfl, rfl⟩, ?_⟩)))
    (case kv3_13 => first | k_is | exact (by rfl) | exact FR.size_le (by decide) | decide | (repeat (first | exact True.intro | exact .nil | refine .cons ⟨_, rfl⟩ ?_ | refine ⟨⟨_, _, rfl, rfl⟩, ?_⟩)))
    (case kv3_14 => first | k_is | exact (by rfl) | exact FR.size_le (by decide) | decide | (repeat (first | exact True.intro | exact .nil | refine .cons ⟨_, rfl⟩ ?_ | refine ⟨⟨_, _, rfl, rfl⟩, ?_⟩)))
    (case kv3_15 => first | k_is | exact (by rfl) | exact FR.size_le (by decide) | decide | (repeat (first | exact True.intro | exact .nil | refine .cons ⟨_, rfl⟩ ?_ | refine ⟨⟨_, _, rfl, rfl⟩, ?_⟩)))
    (case q4 => k_is)
    (case kl4 => k_is)
    (case ku4 => first | k_is | exact (by rfl) | exact FR.size_le (by decide) | decide | (repeat (first | exact True.intro | exact .nil | refine .cons ⟨_, rfl⟩ ?_ | refine ⟨⟨_, _, rfl, rfl⟩, ?_⟩)))
    (case kd4 => first | k_is | exact (by rfl) | exact FR.size_le (by decide) | decide | (repeat (first | exact True.intro | exact .nil | refine .cons ⟨_, rfl⟩ ?_ | refine ⟨⟨_, _, rfl, rfl⟩, ?_⟩)))
    (case kz4 => first | k_is | exact (by rfl) | exact FR.size_le (by decide) | decide | (repeat (first | exact True.intro | exact .nil | refine .cons ⟨_, rfl⟩ ?_ | refine ⟨⟨_, _, rfl, rfl⟩, ?_⟩)))
    (case kv4 => first | k_is | exact (by rfl) | exact FR.size_le (by decide) | decide | (repeat (first | exact True.intro | exact .nil | refine .cons ⟨_, rfl⟩ ?_ | refine ⟨⟨_, _, rfl, rfl⟩, ?_⟩)))
    (case q5 => k_is)
    (case q6 => k_is)
    (case kl6 => k_is)
    (case ku6 => first | k_is | exact (by rfl) | exact FR.size_le (by decide) | decide | (repeat (first | exact True.intro | exact .nil | refine .cons ⟨_, rfl⟩ ?_ | refine ⟨⟨_, _, rfl, rfl⟩, ?_⟩)))
    (case kd6 => first | k_is | exact (by rfl) | exact FR.size_le (by decide) | decide | (repeat (first | exact True.intro | exact .nil | refine .cons ⟨_, rfl⟩ ?_ | refine ⟨⟨_, _, rfl, rfl⟩, ?_⟩)))
    (case kz6 => first | k_is | exact (by rfl) | exact FR.size_le (by decide) | decide | (repeat (first | exact True.intro | exact .nil | refine .cons ⟨_, rfl⟩ ?_ | refine ⟨⟨_, _, rfl, rfl⟩, ?_⟩)))
    (case kv6 => first | k_is | exact (by rfl) | exact FR.size_le (by decide) | decide | (repeat (first | exact True.intro | exact .nil | refine .cons ⟨_, rfl⟩ ?_ | refine ⟨⟨_, _, rfl, rfl⟩, ?_⟩)))
    (case q7 => k_is)
    (case kl7 => k_is)
    (case ku7 => first | k_is | exact (by rfl) | exact FR.size_le (by decide) | decide | (repeat (first | exact True.intro | exact .nil | refine .cons ⟨_, rfl⟩ ?_ | refine ⟨⟨_, _, rfl, rfl⟩, ?_⟩)))
    (case kd7 => first | k_is | exact (by rfl) | exact FR.size_le (by decide) | decide | (repeat (first | exact True.intro | exact .nil | refine .cons ⟨_, rfl⟩ ?_ | refine ⟨⟨_, _, rfl, rfl⟩, ?_⟩)))
    (case kz7 => first | k_is | exact (by rfl) | exact FR.size_le (by decide) | decide | (repeat (first | exact True.intro | exact .nil | refine .cons ⟨_, rfl⟩ ?_ | refine ⟨⟨_, _, rfl, rfl⟩, ?_⟩)))
    (case kv7 => first | k_is | exact (by rfl) | exact FR.size_le (by decide) | decide | (repeat (first | exact True.intro | exact .nil | refine .cons ⟨_, rfl⟩ ?_ | refine ⟨⟨_, _, rfl, rfl⟩, ?_⟩)))
    (case q8 => k_is)
    (case kl8 => k_is)
    (case ky8 => first | k_is | exact (by rfl) | exact FR.size_le (by decide) | decide | (repeat (first | exact True.intro | exact .nil | refine .cons ⟨_, rfl⟩ ?_ | refine ⟨⟨_, _, rfl, rfl⟩, ?_⟩)))
    (case ks8 => first | k_is | exact (by rfl) | exact FR.size_le (by decide) | decide | (repeat (first | exact True.intro | exact .nil | refine .cons ⟨_, rfl⟩ ?_ | refine ⟨⟨_, _, rfl, rfl⟩, ?_⟩)))
    (case kq8 => first | k_is | exact (by rfl) | exact FR.size_le (by decide) | decide | (repeat (first | exact True.intro | exact .nil | refine .cons ⟨_, rfl⟩ ?_ | refine ⟨⟨_, _, rfl, rfl⟩, ?_⟩)))
    (case kv8_0 => first | k_is | exact (by rfl) | exact FR.size_le (by decide) | decide | (repeat (first | exact True.intro | exact .nil | refine .cons ⟨_, rfl⟩ ?_ | refine ⟨⟨_, _, rfl, rfl⟩, ?_⟩)))
    (case kv8_1 => first | k_is | exact (by rfl) | exact FR.size_le (by decide) | decide | (repeat (first | exact True.intro | exact .nil | refine .cons ⟨_, rfl⟩ ?_ | refine ⟨⟨_, _, rfl, rfl⟩, ?_⟩)))
    (case kv8_2 => first | k_is | exact (by rfl) | exact FR.size_le (by decide) | decide | (repeat (first | exact True.intro | exact .nil | refine .cons ⟨_, rfl⟩ ?_ | refine ⟨⟨_, _, rfl, rfl⟩, ?_⟩)))
    (case kv8_3 => first | k_is | exact (by rfl) | exact FR.size_le (by decide) | decide | (repeat (first | exact True.intro | exact .nil | refine .cons ⟨_, rfl⟩ ?_ | refine ⟨⟨_, _, rfl, rfl⟩, ?_⟩)))
    (case kv8_4 => first | k_is | exact (by rfl) | exact FR.size_le (by decide) | decide | (repeat (first | exact True.intro | exact .nil | refine .cons ⟨_, rfl⟩ ?_ | refine ⟨⟨_, _, rfl, rfl⟩, ?_⟩)))
    (case kv8_5 => first | k_is | exact (by rfl) | exact FR.size_le (by decide) | decide | (repeat (first | exact True.intro | exact .nil | refine .cons ⟨_, rfl⟩ ?_ | refine ⟨⟨_, _, rfl, rfl⟩, ?_⟩)))
    (case z0 => k_is)
    (case z1 => k_is)
    (case z2 => k_is)
    (case z3 => k_is)
    (case z4 => k_is)
    (case z5 => k_is)
    (case z6 => k_is)
    (case z7 => k_is)
    (case z8 => k_is)
    (case z9 => k_is)
    (case z10 => k_is)
    (case z11 => k_is)
    (case z12 => k_is)
