import PyProof.Rows.All
import Wide.All
import OpenK.AllK
import Wide.FinOn
import PyProof.ReprRoads
import PyProof.CallFns
import HandS.ForMost
import HandS.IsInst
import HandS.TupAny
import HandS.TupMul
import HandS.Wide
import HandS.EndBits
import HandS.Defaults
import HandS.Evl
import PyProof.ReprLen
import PyProof.Rows.ReprOcc
import HandS.Set
import HandS.SetFor
import HandS.Strs
import HandS.Style
import HandS.Zip
import HandS.StrMore
import HandS.Flow
import PySem.Challenge.RW_farfiles_k01_words_and_paths_of_any_kind
set_option Elab.async false
set_option linter.all false
set_option maxRecDepth 100000
set_option maxHeartbeats 4000000
/-! FB, part a: defs whose callers stand within no repr (guards known), repr of data. -/
namespace FB
open PySem PySem.Spec PyProof.Rows L2

/-- a promise kept wherever no repr is under way -/
structure FnG (P : Program) (w : World) (K : PySem.W.Frag) (mg : Str → Option Value) (base : Heap) (CX : CXT) (k : Nat) (f : Addr) (fd : FuncData) (ps : List Str) (sp : Sp) : Prop where
  n : ∀ vs H Q E, sp vs H Q E → vs.length = ps.length
  go : ∀ (A : Around) (outer : List Env) (s : Shared) (H : Hp) (args : Args) (us : List Value) (vs : List V) (Q : VK) (E : XK), A.guards = some [] → Room k A → Env0 P w K mg base A outer s H →
    BindsTo s fd args (ps.zip us) → Vals vs us → sp vs H Q E → codeAny (model P w) A (.call (.ref f) args) (CR CX outer P w H s Q E) s

section
variable {P : Program} {w : World} {K : PySem.W.Frag} {mg : Str → Option Value} {base : Heap}
theorem FnG.of {CX : CXT} {k : Nat} {f : Addr} {fd : FuncData} {ps : List Str} {sp : Sp} (F : FnOk P w K mg base CX k f fd ps sp) : FnG P w K mg base CX k f fd ps sp :=
  ⟨F.len, fun A outer s H args us vs Q E _ hr => F.run A outer s H args us vs Q E hr⟩
theorem FnG.up {CX : CXT} {j k : Nat} {f : Addr} {fd : FuncData} {ps : List Str} {sp : Sp} (F : FnG P w K mg base CX j f fd ps sp) (h : j ≤ k) : FnG P w K mg base CX k f fd ps sp :=
  ⟨F.n, fun A outer s H args us vs Q E hg hr => F.go A outer s H args us vs Q E hg (hr.mono h)⟩

/-- a def by its body, guards known -/
theorem fng_of {CX : CXT} {k : Nat} {x qual : Str} {st : Stmt} {f : Addr} {fd : FuncData} {N ps : List Str} {sp : Sp} (F : Fun K x qual st f fd) (S : FnScope N ps (defScope st)) (ln : ∀ vs H Q E, sp vs H Q E → vs.length = ps.length)
    (hb : ∀ (cdv : Value) (A : Around) (outer : List Env) (s : Shared) (H : Hp) (vs : List V) (Q : VK) (E : XK), A.guards = some [] → Room k (A.deeper (envOfC qual (defScope st) s.heap.objs.size f cdv)) → sp vs H Q E →
      ∃ t, PSs (cxOf CX P w K mg base N qual (defScope st) f cdv A outer s H E) (defBody st) t ∧ t { nx := fun _ H' => Q .non H', rt := Q } (start N vs) H) : FnG P w K mg base CX (k + 1) f fd ps sp := by
  obtain ⟨oc, od, kV, doc, pm, an, cdv, ct, osl, rfl, lk, hcd⟩ := F.ex
  refine ⟨ln, ?_⟩
  intro A outer s H args us vs Q E hg hr e0 hbd r hsp
  have hl : vs.length = ps.length := ln _ _ _ _ hsp
  have KX : K.In s.heap := e0.mod.kin.keeps (fun b o e => (e0.bs b o e).1)
  have lim : s.heap.NoLimit := e0.mod.nolimit.keeps (fun b o e => (e0.bs b o e).1)
  have hkd : ∀ y ∈ ps.zip us, (defScope st).names.lookup y.1 = some .local ∨ ((defScope st).names.lookup y.1 = some .cell ∧ ((cellsFrom (s.heap.objs.size + 1) (defScope st).names []).lookup y.1).isSome = true) := by
    rintro ⟨n, v⟩ hy
    cases S.par n (List.of_mem_zip hy).1 with
    | inl q => exact Or.inl q
    | inr q => exact Or.inr ⟨q, PySem.W.cellsFrom_some _ _ _ (Or.inl q)⟩
  refine codeAny_call_function hr.depth (KX _ _ lk) rfl S.co S.gen rfl (PySem.W.codeRec_of KX hcd) (hbd _ _ _ _ ?_)
  refine wpAny_newFunctionEnv_cells S.kind hkd ?_
  intro env he s1 x1
  subst he
  refine ⟨lim.keeps x1.toInCall.keep, codeAny_func ?_⟩
  obtain ⟨t, ht, hq⟩ := hb cdv A outer s H vs Q E hg (hr.deeper _) hsp
  have I : Inv (cxOf CX P w K mg base N qual (defScope st) f cdv A outer s H E) [] (start N vs) H s1 := inv_start S hr.hd e0 hl r x1
  refine wpAny_mono (ht.run [] s1 (start N vs) H _ I hq) ?_ (fun e s' hs => hs)
  intro fl s' hs
  have fin : ∀ {σ' : L2.St} {H' : Hp} {v : V} {u : Value}, Inv (cxOf CX P w K mg base N qual (defScope st) f cdv A outer s H E) [] σ' H' s' → RelV v u → Q v H' → CE outer P w H s Q u s' := by
    intro σ' H' v u J rv q
    exact ⟨v, H', J.os, J.bare, J.base, J.hok, rv, q⟩
  cases fl with
  | next => exact (let ⟨_, _, J, q⟩ := hs; fin (v := V.non) (u := Value.none) J rfl q)
  | ret u => exact (let ⟨_, _, _, J, rv, q⟩ := hs; fin J rv q)
  | brk => exact (let ⟨_, _, _, q⟩ := hs; False.elim q)
  | cont => exact (let ⟨_, _, _, q⟩ := hs; False.elim q)
end

section
variable {X : Cx} {CX : CXT} {k : Nat} {f : Addr} {fd : FuncData} {ps : List Str} {sp : Sp} {dvs : List V} {ds : List Value} {E : XK} {x : Str} {p pos : Pos} {e : Expr} {es : List Expr} {t : TA}
theorem run_g {pins : List (Addr × Obj)} {σ : L2.St} {H : Hp} {s : Shared} {Q : VK} {us : List Value} {vs : List V} (F : FnG X.prog X.w X.K X.mg X.base CX k f fd ps sp) (hg : X.A.guards = some []) (hr : Room k X.A) (hb : Binds X.K fd ps ds)
    (hd : Vals dvs ds) (hx : Passes CX X E) (I : Inv X pins σ H s) (r : Vals vs us) (h : sp (vs ++ dvs) H Q E) : wpAny (model X.prog X.w) X.A (call (.ref f) us) (EP X pins σ Q) X.xe s := by
  have r2 : Vals (vs ++ dvs) (us ++ ds) := Vals.append r hd
  have hl : (us ++ ds).length = ps.length := (r2.length).symm.trans (F.n _ _ _ _ h)
  have main := F.go X.A X.stack s H ⟨us, []⟩ (us ++ ds) (vs ++ dvs) Q E hg hr I.env0 (hb s us I.kIn hl) r2 h
  refine wpAny_call (codeAny_mono main ?_)
  intro r s' hq
  match r, hq with
  | .error e, hq => exact hx pins σ H s e s' I hq
  | .ok (.ret u), hq => exact I.after hq
  | .ok .next, hq => exact hq.elim
  | .ok .brk, hq => exact hq.elim
  | .ok .cont, hq => exact hq.elim
/-- f(..) of such a def -/
theorem pe_g (F : FnG X.prog X.w X.K X.mg X.base CX k f fd ps sp) (hgd : X.A.guards = some []) (hr : Room k X.A) (hg : Gl X x) (hm : X.mg x = some (.ref f)) (hk : PySem.W.keepIn X.K (.ref f) = true) (hb : Binds X.K fd ps ds) (hd : Vals dvs ds)
    (hx : Passes CX X E) (ha : PA X (e :: es) t) (hdb : (x == ("__debug__" : Str)) = false := by decide) (he : starEach (e :: es) X.env = (false, eval e X.env) :: starEach es X.env := by rfl)
    (hpl : (backTo pos (starEach es X.env)).any (·.1) = false := by rfl) : PE X (.Call (.Name x p) (e :: es) [] pos) (tCall sp dvs E t) :=
  ⟨fun pins s σ H Q I h => wpAny_Call_Name_kw (ld_glob I hg hm (PySem.W.callWith_K (h₀ := X.base) I.ok.mod.kin hk (thn (ha.run pos pins s σ H _ I h) fun us s1 hq => by
    obtain ⟨vs, H1, I1, r, q⟩ := hq
    exact ⟨I1.kIn, run_g F hgd hr hb hd hx I1 r q⟩) he hpl) hdb)⟩
end

section
variable {X : Cx} {CX : CXT} {k n : Nat} {f : Addr} {fd : FuncData} {ps ks : List Str} {sp : Sp} {E : XK} {x : Str} {p pos : Pos} {kws : List Keyword} {tk : TA} {g : List Value → List Value → List Value} {gV : List V → List V → List V}
/-- f(k = v, ..), keywords alone -/
theorem pe_kw0 (F : FnOk X.prog X.w X.K X.mg X.base CX k f fd ps sp) (hr : Room k X.A) (hg : Gl X x) (hm : X.mg x = some (.ref f)) (hk : PySem.W.keepIn X.K (.ref f) = true) (hb : KBn X.K fd ps 0 ks g gV) (hx : Passes CX X E)
    (hkw : PK X kws tk) (hall : (backToKw pos (keywordEach kws X.env)).all (·.1.isSome) = true := by rfl) (hks : (backToKw pos (keywordEach kws X.env)).filterMap (·.1) = ks := by rfl)
    (hdb : (x == ("__debug__" : Str)) = false := by decide) (hpl : ((backTo pos (starEach [] X.env)).any (·.1) || (backToKw pos (keywordEach kws X.env)).any (·.1.isNone)) = false := by rfl) :
    PE X (.Call (.Name x p) [] kws pos) (tCallN 0 ks.length sp gV E tNil tk) := by
  constructor
  intro pins s σ H Q I h
  refine wpAny_Call_Name_kw (ld_glob I hg hm (PySem.W.callWith_KW0 (h₀ := X.base) I.ok.mod.kin hk hall ?_ hpl) hdb)
  refine thn (hkw.run pos pins s σ H _ I h) fun ws s2 hq => ?_
  obtain ⟨zs, H2, I2, rz, l1, l2, q2⟩ := hq
  rw [hks]
  exact ⟨I2.kIn, run_fnN (us := []) (vs := []) F hr hb hx I2 .nil rz l1 l2 q2⟩
end
end FB

set_option Elab.async false
set_option linter.all false
set_option maxRecDepth 100000
set_option maxHeartbeats 4000000
/-! FB, part b: data as values over the abstract heap; repr. -/
namespace FB
open PySem PySem.Spec PyProof.Rows L2

def kD : Key → PyData
  | .inl i => .int i
  | .inr x => .str x
/-! ### data, none of whose objects stands in U -/
mutual
inductive DU (U : Addr → Prop) (H : Hp) : V → PyData → Prop where
  | non : DU U H .non .none
  | bl (b : Bool) : DU U H (.bl b) (.bool b)
  | int (i : Int) : DU U H (.int i) (.int i)
  | str (x : Str) : DU U H (.str x) (.str x)
  | lst {a : Addr} {vs : List V} {ds : List PyData} : ¬ U a → H a = some (.lst vs) → DUA U H vs ds → DU U H (.ref a) (.list ds)
  | tup {a : Addr} {vs : List V} {ds : List PyData} : ¬ U a → H a = some (.tup vs) → DUA U H vs ds → DU U H (.ref a) (.tuple ds)
  | dct {a : Addr} {kvs : List (Key × V)} {ds : List PyData} : ¬ U a → H a = some (.dK kvs) → DUA U H (kvs.map (·.2)) ds → DU U H (.ref a) (.dict ((kvs.map fun p => kD p.1).zip ds))
inductive DUA (U : Addr → Prop) (H : Hp) : List V → List PyData → Prop where
  | nil : DUA U H [] []
  | cons {v : V} {d : PyData} {vs : List V} {ds : List PyData} : DU U H v d → DUA U H vs ds → DUA U H (v :: vs) (d :: ds)
end
theorem DUA.len0 {U : Addr → Prop} {H : Hp} : ∀ {vs : List V} {ds : List PyData}, DUA U H vs ds → vs.length = ds.length
  | _, _, .nil => rfl
  | _, _, .cons _ t => congrArg (· + 1) (DUA.len0 t)
/-! ### lists within -/
mutual
def hasL : PyData → Bool
  | .none => false
  | .bool _ => false
  | .int _ => false
  | .str _ => false
  | .list _ => true
  | .tuple xs => hasLA xs
  | .dict kvs => hasLK kvs
def hasLA : List PyData → Bool
  | [] => false
  | x :: xs => hasL x || hasLA xs
def hasLK : List (PyData × PyData) → Bool
  | [] => false
  | (_, v) :: r => hasL v || hasLK r
end
theorem hasLK_zip : ∀ (ks ds : List PyData), ks.length = ds.length → hasLK (ks.zip ds) = hasLA ds
  | [], [], _ => by simp [hasLK, hasLA]
  | k :: ks, d :: ds, h => by
    have ih := hasLK_zip ks ds (Nat.succ.inj h)
    simp only [List.zip_cons_cons, hasLK, hasLA, ih]
  | [], _ :: _, h => by cases h
  | _ :: _, [], h => by cases h

/-! ### to the library's Reads -/
section
variable {P : Program} {w : World} {U : Addr → Prop} {H : Hp} {h : Heap}
theorem pairs_keys (h : Heap) : ∀ {es : List DictEntry} {vs : List (Key × Value)}, Pairs (mixKind P w) es vs → ReadsAll h (es.map (·.key)) (vs.map fun p => kD p.1) []
  | _, _, .nil => .nil
  | _, _, .cons hk _ t => by
    have ih := pairs_keys h t
    have hk' := hk
    rw [mixKind_is] at hk'
    rcases keyIs_shape hk' with ⟨i, tt, e1, e2⟩ | ⟨x, tt, e1, e2⟩
    · rw [List.map_cons, List.map_cons, e1, e2]
      exact ReadsAll.cons (as := []) (bs := []) (Reads.int i tt) ih
    · rw [List.map_cons, List.map_cons, e1, e2]
      exact ReadsAll.cons (as := []) (bs := []) (Reads.str x tt) ih
theorem kv_keys : ∀ {kvs : List (Key × V)} {vs : List (Key × Value)}, KV kvs vs → (vs.map fun p => kD p.1) = kvs.map fun p => kD p.1
  | _, _, .nil => rfl
  | _, _, .cons r t => by rw [List.map_cons, List.map_cons, kv_keys t, r.1]
theorem kv_vals : ∀ {kvs : List (Key × V)} {vs : List (Key × Value)} {es : List DictEntry}, KV kvs vs → Pairs (mixKind P w) es vs → Vals (kvs.map (·.2)) (es.map (·.val))
  | _, _, _, .nil, .nil => .nil
  | _, _, _, .cons r t, .cons _ e s => by
    rw [List.map_cons, List.map_cons, e]
    exact .cons r.2 (kv_vals t s)
theorem zip_fst : ∀ (ks ds : List PyData), ks.length = ds.length → (ks.zip ds).map (·.1) = ks
  | [], [], _ => rfl
  | k :: ks, d :: ds, e => by rw [List.zip_cons_cons, List.map_cons, zip_fst ks ds (Nat.succ.inj e)]
  | [], _ :: _, e => by cases e
  | _ :: _, [], e => by cases e
theorem zip_snd : ∀ (ks ds : List PyData), ks.length = ds.length → (ks.zip ds).map (·.2) = ds
  | [], [], _ => rfl
  | k :: ks, d :: ds, e => by rw [List.zip_cons_cons, List.map_cons, zip_snd ks ds (Nat.succ.inj e)]
  | [], _ :: _, e => by cases e
  | _ :: _, [], e => by cases e
mutual
theorem DU.rd (ok : HOk P w H h) : ∀ {v : V} {d : PyData}, DU U H v d → ∀ {x : Value}, RelV v x → ∃ as, Reads h x d as ∧ (hasL d = false → sysModules ∉ as)
  | _, _, .non, x, r => by
    cases (show x = Value.none from r)
    exact ⟨_, .none, fun _ z => by cases z⟩
  | _, _, .bl b, x, r => by
    cases (show x = Value.bool b from r)
    exact ⟨_, .bool b, fun _ z => by cases z⟩
  | _, _, .int i, x, r => by
    obtain ⟨t, e⟩ := (show ∃ t, x = Value.int i t from r)
    subst e
    exact ⟨_, .int i t, fun _ z => by cases z⟩
  | _, _, .str y, x, r => by
    obtain ⟨t, e⟩ := (show ∃ t, x = Value.str y t from r)
    subst e
    exact ⟨_, .str y t, fun _ z => by cases z⟩
  | _, _, .lst (a := a) (vs := vs) _ e t, x, r => by
    cases (show x = Value.ref a from r)
    obtain ⟨_, its, n, rv, ho⟩ := (show ObjOk P w H h a (.lst vs) from ok a _ e)
    obtain ⟨as, q, _⟩ := DUA.rd ok t rv
    exact ⟨_, .list ho rfl rfl q, fun z => by simp [hasL] at z⟩
  | _, _, .tup (a := a) (vs := vs) _ e t, x, r => by
    cases (show x = Value.ref a from r)
    obtain ⟨_, its, rv, o, ho, hc, n, hd⟩ := (show ObjOk P w H h a (.tup vs) from ok a _ e)
    obtain ⟨as, q, nl⟩ := DUA.rd ok t rv
    exact ⟨_, .tuple ho hc hd q, fun z => nl (by simpa [hasL] using z)⟩
  | _, _, .dct (a := a) (kvs := kvs) (ds := ds) _ e t, x, r => by
    cases (show x = Value.ref a from r)
    obtain ⟨_, hs, vs, kv, o, es, ep, ho, hx, hd, _, pr, _⟩ := (show ObjOk P w H h a (.dK kvs) from ok a _ e)
    have lk : (kvs.map fun p => kD p.1).length = ds.length := by
      rw [List.length_map, ← DUA.len0 t, List.length_map]
    obtain ⟨bs, q, nl⟩ := DUA.rd ok t (kv_vals kv pr)
    have q1 : ReadsAll h (es.toList.map (·.key)) (((kvs.map fun p => kD p.1).zip ds).map (·.1)) [] := by
      rw [zip_fst _ _ lk, ← kv_keys kv]
      exact pairs_keys h pr
    have q2 : ReadsAll h (es.toList.map (·.val)) (((kvs.map fun p => kD p.1).zip ds).map (·.2)) bs := by
      rw [zip_snd _ _ lk]
      exact q
    refine ⟨_, .dict ho hx.1 hd q1 q2, fun z hm => ?_⟩
    rw [show hasL (.dict ((kvs.map fun p => kD p.1).zip ds)) = hasLA ds by rw [hasL, hasLK_zip _ _ lk]] at z
    rcases List.mem_cons.mp hm with e1 | hm
    · rw [← e1] at hs
      simp at hs
    · rcases List.mem_append.mp hm with z1 | z1
      · cases z1
      · exact nl z z1
theorem DUA.rd (ok : HOk P w H h) : ∀ {vs : List V} {ds : List PyData}, DUA U H vs ds → ∀ {xs : List Value}, Vals vs xs → ∃ as, ReadsAll h xs ds as ∧ (hasLA ds = false → sysModules ∉ as)
  | _, _, .nil, _, .nil => ⟨_, .nil, fun _ z => by cases z⟩
  | _, _, .cons h1 t, _, .cons r rt => by
    obtain ⟨as, q, n1⟩ := DU.rd ok h1 r
    obtain ⟨bs, q2, n2⟩ := DUA.rd ok t rt
    refine ⟨_, .cons q q2, fun z hm => ?_⟩
    simp only [hasLA, Bool.or_eq_false_iff] at z
    rcases List.mem_append.mp hm with z1 | z1
    · exact n1 z.1 z1
    · exact n2 z.2 z1
end
end

/-! ### what can be shown -/
/-- data that repr tells: small, not both dicts and lists within -/
structure Sm (d : PyData) : Prop where
  sh : d.showable = true
  dp : d.depth ≤ 40
  ln : d.shown.length ≤ 10000000
  mx : d.hasDict = false ∨ hasL d = false
def rRepr : List V → Hp → VK → Prop := fun xs H Q => ∃ (U : Addr → Prop) (v : V) (d : PyData), xs = [v] ∧ DU U H v d ∧ Sm d ∧ Q (.str d.shown) H
theorem call_rp {X : Cx} (hg : X.A.guards = some []) (hu : X.A.units + 64 < cLine) : CallR X (.builtin "repr") rRepr := by
  intro pins s σ H xs us Q I r h
  obtain ⟨U, v, d, rfl, hd, sm, q⟩ := h
  obtain ⟨x, rfl, rx⟩ := vals1 r
  have szl : sizeLine = 16777216 := by decide
  have l1 := sm.ln
  have hz : d.shown.length ≤ sizeLine := by omega
  have fin : ∀ (s' : Shared) (t : Tok), Inv X pins σ H s' → EP X pins σ Q (.str d.shown t) s' := fun s' t I' => ⟨.str d.shown, H, I', ⟨t, rfl⟩, q⟩
  cases hd with
  | non =>
    cases (show x = Value.none from rx)
    exact PySem.P.repr_of_none (fin _ _ (I.tok _))
  | bl b =>
    cases (show x = Value.bool b from rx)
    exact PySem.P.repr_of_bool (fin _ _ (I.tok _))
  | int i =>
    obtain ⟨t, e⟩ := (show ∃ t, x = Value.int i t from rx)
    subst e
    have := sm.sh
    exact PySem.P.repr_of_int (by simpa [PyData.showable] using this) (fin _ _ (I.tok _))
  | str y =>
    obtain ⟨t, e⟩ := (show ∃ t, x = Value.str y t from rx)
    subst e
    exact PySem.P.repr_of_str (fin _ _ (I.tok _)) hz
  | @lst a vs ds n e t =>
    obtain ⟨as, q1, q2⟩ := DU.rd I.hok (.lst n e t) rx
    cases (show x = Value.ref a from rx)
    have dp := sm.dp
    refine repr_of_reads' q1 sm.sh (fun z => sm.mx.elim (fun y => by rw [y] at z; cases z) q2) hg (by omega) (fun _ _ e => e) (fun h' t tk k => fin _ _ (I.kept k)) hz
  | @tup a vs ds n e t =>
    obtain ⟨as, q1, q2⟩ := DU.rd I.hok (.tup n e t) rx
    cases (show x = Value.ref a from rx)
    have dp := sm.dp
    refine repr_of_reads' q1 sm.sh (fun z => sm.mx.elim (fun y => by rw [y] at z; cases z) q2) hg (by omega) (fun _ _ e => e) (fun h' t tk k => fin _ _ (I.kept k)) hz
  | @dct a kvs ds n e t =>
    obtain ⟨as, q1, q2⟩ := DU.rd I.hok (.dct n e t) rx
    cases (show x = Value.ref a from rx)
    have dp := sm.dp
    refine repr_of_reads' q1 sm.sh (fun z => sm.mx.elim (fun y => by rw [y] at z; cases z) q2) hg (by omega) (fun _ _ e => e) (fun h' t tk k => fin _ _ (I.kept k)) hz
end FB

set_option Elab.async false
set_option linter.all false
set_option maxRecDepth 100000
set_option maxHeartbeats 4000000
/-! FB, part c: zones. A zone z says which addresses may change and how (I), and on which addresses what is told of values may not hang (U). -/
namespace FB
open PySem PySem.Spec PyProof.Rows L2

structure Zn where
  I : Addr → Option (HO → Prop)
  U : Addr → Prop
  cov : ∀ a, I a ≠ none → U a
/-- what may happen to the heap -/
structure Zn.R (z : Zn) (H H' : Hp) : Prop where
  kp : ∀ a o, z.I a = none → H a = some o → H' a = some o
  i1 : ∀ a φ, z.I a = some φ → ∃ o, H a = some o ∧ φ o
  i2 : ∀ a φ, z.I a = some φ → ∃ o, H' a = some o ∧ φ o
  l1 : ∀ a, z.U a → H a ≠ none
  l2 : ∀ a, z.U a → H' a ≠ none
/-- what told values lean on stays -/
def Zn.W (z : Zn) (H H' : Hp) : Prop := ∀ a o, ¬ z.U a → H a = some o → H' a = some o
section
variable {z : Zn} {H H1 H2 H' : Hp} {p : Addr} {o : HO}
theorem Zn.W.refl : z.W H H := fun _ _ _ h => h
theorem Zn.W.tr (a : z.W H H1) (b : z.W H1 H2) : z.W H H2 := fun x o n h => b x o n (a x o n h)
theorem Zn.R.w (r : z.R H H') : z.W H H' := fun a o n h => r.kp a o (by
  cases e : z.I a with
  | none => rfl
  | some φ => exact absurd (z.cov a (by rw [e]; simp)) n) h
theorem Zn.R.dl (r : z.R H H') : z.R H H := ⟨fun _ _ _ h => h, r.i1, r.i1, r.l1, r.l1⟩
theorem Zn.R.dr (r : z.R H H') : z.R H' H' := ⟨fun _ _ _ h => h, r.i2, r.i2, r.l2, r.l2⟩
theorem Zn.R.tr (a : z.R H H1) (b : z.R H1 H2) : z.R H H2 := ⟨fun x o n h => b.kp x o n (a.kp x o n h), a.i1, b.i2, a.l1, b.l2⟩
theorem Zn.R.mut (r : z.R H H') (h : H p = none) : z.R H (upd H' p o) := by
  refine ⟨fun a u n e => ?_, r.i1, fun a φ e => ?_, r.l1, fun a u => ?_⟩
  · rw [upd_ne (ne_of_none e h)]
    exact r.kp a u n e
  · obtain ⟨x, hx, _⟩ := r.i1 a φ e
    rw [upd_ne (ne_of_none hx h)]
    exact r.i2 a φ e
  · by_cases hp : a = p
    · rw [hp, upd_same]
      simp
    · rw [upd_ne hp]
      exact r.l2 a u
theorem Zn.R.new (r : z.R H H) (h : H p = none) : z.R H (upd H p o) := r.mut h
theorem Zn.R.back (r : z.R H H') (h : H' p = none) : H p = none := by
  cases e : H p with
  | none => rfl
  | some u =>
    cases ei : z.I p with
    | none =>
      rw [r.kp p u ei e] at h
      cases h
    | some φ =>
      obtain ⟨x, hx, _⟩ := r.i2 p φ ei
      rw [hx] at h
      cases h
theorem Zn.R.nu (r : z.R H H) (h : H p = none) : ¬ z.U p := fun u => r.l1 p u h
theorem Zn.R.ni (r : z.R H H) (h : H p = none) : z.I p = none := by
  cases ei : z.I p with
  | none => rfl
  | some φ =>
    obtain ⟨x, hx, _⟩ := r.i1 p φ ei
    rw [hx] at h
    cases h
/-- plain growth is within every zone -/
theorem Zn.R.ex (r : z.R H H) (e : ∀ a o, H a = some o → H' a = some o) : z.R H H' :=
  ⟨fun a o _ h => e a o h, r.i1, fun a φ h => let ⟨x, hx, q⟩ := r.i1 a φ h; ⟨x, e a x hx, q⟩, r.l1, fun a u q => by
    cases h : H a with
    | none => exact r.l1 a u h
    | some x => rw [e a x h] at q; cases q⟩
/-- one more address on which told values may not hang -/
def Zn.add (z : Zn) (D : Addr) : Zn := ⟨z.I, fun a => z.U a ∨ a = D, fun a h => Or.inl (z.cov a h)⟩
theorem Zn.R.up {D : Addr} (r : z.R H H') (h1 : H D ≠ none) (h2 : H' D ≠ none) : (z.add D).R H H' :=
  ⟨r.kp, r.i1, r.i2, fun a u => u.elim (r.l1 a) fun e => e ▸ h1, fun a u => u.elim (r.l2 a) fun e => e ▸ h2⟩
theorem Zn.R.dn {D : Addr} (r : (z.add D).R H H') : z.R H H' := ⟨r.kp, r.i1, r.i2, fun a u => r.l1 a (Or.inl u), fun a u => r.l2 a (Or.inl u)⟩
theorem Zn.W.dn {D : Addr} (w : z.W H H') : (z.add D).W H H' := fun a o n h => w a o (fun u => n (Or.inl u)) h
end
/-- a zone in which nothing that stands changes -/
def Zn.still (U : Addr → Prop) : Zn := ⟨fun _ => none, U, fun _ h => absurd rfl h⟩
theorem still_r {U : Addr → Prop} {H : Hp} (h : ∀ a, U a → H a ≠ none) : (Zn.still U).R H H := ⟨fun _ _ _ h => h, fun _ _ h => (by cases h), fun _ _ h => (by cases h), h, h⟩

section
variable {U U' : Addr → Prop} {H H' : Hp}
mutual
theorem DU.go (k : ∀ a o, ¬ U a → H a = some o → ¬ U' a ∧ H' a = some o) : ∀ {v : V} {d : PyData}, DU U H v d → DU U' H' v d
  | _, _, .non => .non
  | _, _, .bl b => .bl b
  | _, _, .int i => .int i
  | _, _, .str x => .str x
  | _, _, .lst n e t => .lst (k _ _ n e).1 (k _ _ n e).2 (DUA.go k t)
  | _, _, .tup n e t => .tup (k _ _ n e).1 (k _ _ n e).2 (DUA.go k t)
  | _, _, .dct n e t => .dct (k _ _ n e).1 (k _ _ n e).2 (DUA.go k t)
theorem DUA.go (k : ∀ a o, ¬ U a → H a = some o → ¬ U' a ∧ H' a = some o) : ∀ {vs : List V} {ds : List PyData}, DUA U H vs ds → DUA U' H' vs ds
  | _, _, .nil => .nil
  | _, _, .cons h t => .cons (DU.go k h) (DUA.go k t)
end
theorem DU.w {z : Zn} {v : V} {d : PyData} (w : z.W H H') (h : DU z.U H v d) : DU z.U H' v d := h.go fun a o n e => ⟨n, w a o n e⟩
theorem DUA.w {z : Zn} {v : List V} {d : List PyData} (w : z.W H H') (h : DUA z.U H v d) : DUA z.U H' v d := h.go fun a o n e => ⟨n, w a o n e⟩
/-- an address that was free ahead: the value doesn't reach it -/
theorem DU.add {z : Zn} {D : Addr} {v : V} {d : PyData} (hD : H D = none) (w : z.W H H') (h : DU z.U H v d) : DU (z.add D).U H' v d :=
  h.go fun a o n e => ⟨fun u => u.elim n fun q => (by rw [q, hD] at e; cases e), w a o n e⟩
theorem DU.sub {z : Zn} {D : Addr} {v : V} {d : PyData} (h : DU (z.add D).U H v d) : DU z.U H v d := h.go fun a o n e => ⟨fun u => n (Or.inl u), e⟩
/-- other zones -/
theorem DU.to {V' : Addr → Prop} {v : V} {d : PyData} (k : ∀ a, V' a → U a) (h : DU U H v d) : DU V' H v d := h.go fun a o n e => ⟨fun u => n (k a u), e⟩
theorem DUA.len : ∀ {vs : List V} {ds : List PyData}, DUA U H vs ds → vs.length = ds.length
  | _, _, .nil => rfl
  | _, _, .cons _ t => congrArg (· + 1) t.len
theorem DUA.at : ∀ {vs : List V} {ds : List PyData} {i : Nat} {v : V}, DUA U H vs ds → vs[i]? = some v → ∃ d, ds[i]? = some d ∧ DU U H v d
  | _, _, _, _, .nil, e => by simp at e
  | _, _, 0, v, .cons h _, e => by
    have e2 : _ = v := Option.some.inj e
    subst e2
    exact ⟨_, rfl, h⟩
  | _, _, i + 1, v, .cons _ t, e => DUA.at (i := i) t e
theorem DUA.app : ∀ {vs ws : List V} {ds es : List PyData}, DUA U H vs ds → DUA U H ws es → DUA U H (vs ++ ws) (ds ++ es)
  | _, _, _, _, .nil, s => s
  | _, _, _, _, .cons h t, s => .cons h (DUA.app t s)
theorem DUA.take : ∀ {vs : List V} {ds : List PyData} (n : Nat), DUA U H vs ds → DUA U H (vs.take n) (ds.take n)
  | _, _, 0, _ => .nil
  | _, _, _ + 1, .nil => .nil
  | _, _, n + 1, .cons h t => .cons h (DUA.take n t)
theorem DUA.drop : ∀ {vs : List V} {ds : List PyData} (n : Nat), DUA U H vs ds → DUA U H (vs.drop n) (ds.drop n)
  | _, _, 0, h => h
  | _, _, _ + 1, .nil => .nil
  | _, _, n + 1, .cons _ t => DUA.drop n t
theorem DUA.one {v : V} {d : PyData} (h : DU U H v d) : DUA U H [v] [d] := .cons h .nil
theorem DUA.strs : ∀ xs : List Str, DUA U H (xs.map V.str) (xs.map PyData.str)
  | [] => .nil
  | x :: r => .cons (.str x) (DUA.strs r)
end

/-! ### what a piece of syntax gives -/
abbrev VP := V → Hp → Prop
def Is (c : V) : VP := fun v _ => v = c
/-- an int below n -/
def Nn (n : Nat) : VP := fun v _ => ∃ i : Nat, v = .int (i : Int) ∧ i < n
def Dd (z : Zn) (d : PyData) : VP := fun v H => DU z.U H v d
section
variable (z : Zn)
/-- run at H, k ends within the zone with a value of which φ holds as long as the zone is kept -/
def Rn (k : VK → Prop) (H : Hp) (φ : VP) : Prop := ∀ Q : VK, (∀ v H2, z.R H H2 → (∀ H3, z.W H2 H3 → φ v H3) → Q v H2) → k Q
def Ev (te : TE) (σ : L2.St) (H : Hp) (φ : VP) : Prop := ∀ H1, z.R H H1 → Rn z (te σ H1) H1 φ
def EvT (tt : TT) (σ : L2.St) (H : Hp) (ψ : Bool → Prop) : Prop := ∀ H1, z.R H H1 → ∀ Q : Bool → Hp → Prop, (∀ b H2, z.R H1 H2 → ψ b → Q b H2) → tt σ H1 Q
def EvA (ta : TA) (σ : L2.St) (H : Hp) (Φ : List V → Hp → Prop) : Prop := ∀ H1, z.R H H1 → ∀ Q : List V → Hp → Prop, (∀ vs H2, z.R H1 H2 → (∀ H3, z.W H2 H3 → Φ vs H3) → Q vs H2) → ta σ H1 Q
def EvO (to : TO) (σ : L2.St) (H : Hp) (ψ : Option Int → Prop) : Prop := ∀ H1, z.R H H1 → ∀ Q : Option Int → Hp → Prop, (∀ o H2, z.R H1 H2 → ψ o → Q o H2) → to σ H1 Q
end
section
variable {z : Zn} {σ : L2.St} {H : Hp} {ta tb tc te : TE} {φ ψ χ : VP}
theorem Rn.imp {k : VK → Prop} (h : Rn z k H φ) (i : ∀ v H', z.R H H' → φ v H' → ψ v H') (st : ∀ H' H'', z.R H H' → z.W H' H'' → z.W H H'' → True := by intros; trivial) (iw : ∀ v H', z.W H H' → φ v H' → ψ v H') : Rn z k H ψ :=
  fun Q q => h Q fun v H2 r f => q v H2 r fun H3 w => iw v H3 (r.w.tr w) (f H3 w)
theorem Ev.imp (h : Ev z te σ H φ) (i : ∀ v H', z.W H H' → φ v H' → ψ v H') : Ev z te σ H ψ := fun H1 r Q q => h H1 r Q fun v H2 r2 f => q v H2 r2 fun H3 w => i v H3 ((r.tr r2).w.tr w) (f H3 w)
theorem Ev.up {H' : Hp} (r : z.R H H') (h : Ev z te σ H φ) : Ev z te σ H' φ := fun H1 r1 => h H1 (r.tr r1)
theorem ev_var {i : Nat} {v : V} (e : σ[i]? = some (some v)) (h : ∀ H', z.W H H' → φ v H') : Ev z (tVar i) σ H φ := fun H1 r Q q => ⟨v, e, q v H1 r.dr fun H3 w => h H3 (r.w.tr w)⟩
theorem ev_is {i : Nat} {v : V} (e : σ[i]? = some (some v)) : Ev z (tVar i) σ H (Is v) := ev_var e fun _ _ => rfl
theorem ev_c {v : V} (h : ∀ H', z.W H H' → φ v H') : Ev z (tC v) σ H φ := fun H1 r Q q => q v H1 r.dr fun H3 w => h H3 (r.w.tr w)
theorem ev_k {v : V} : Ev z (tC v) σ H (Is v) := ev_c fun _ _ => rfl
/-- an operator: its two parts, then itself -/
theorem ev_op {r : R2} (ha : Ev z ta σ H φ) (hb : ∀ x H1, z.R H H1 → φ x H1 → Ev z tb σ H1 ψ) (hr : ∀ x y H1, z.R H H1 → φ x H1 → ψ y H1 → Rn z (r x y H1) H1 χ) : Ev z (tOp r ta tb) σ H χ := fun H1 e Q q =>
  ha H1 e _ fun x H2 e2 fx => hb x H2 (e.tr e2) (fx H2 .refl) H2 e2.dr _ fun y H3 e3 fy => hr x y H3 ((e.tr e2).tr e3) (fx H3 e3.w) (fy H3 .refl) Q fun v H4 e4 fv => q v H4 ((e2.tr e3).tr e4) fv
/-- .. of two known values -/
theorem ev_op2 {r : R2} {x y : V} (ha : Ev z ta σ H (Is x)) (hb : Ev z tb σ H (Is y)) (hr : ∀ H1, z.R H H1 → Rn z (r x y H1) H1 χ) : Ev z (tOp r ta tb) σ H χ :=
  ev_op ha (fun _ H1 r _ => hb.up r) fun x' y' H1 r e1 e2 => by
    cases e1
    cases e2
    exact hr H1 r
theorem rn_val {k : VK → Prop} {v : V} (hR : z.R H H) (h : ∀ Q : VK, Q v H → k Q) (hφ : ∀ H', z.W H H' → φ v H') : Rn z k H φ := fun Q q => h Q (q v H hR hφ)
theorem ev_un {r : V → Hp → VK → Prop} (ha : Ev z ta σ H φ) (hr : ∀ x H1, z.R H H1 → φ x H1 → Rn z (r x H1) H1 χ) : Ev z (tUn r ta) σ H χ := fun H1 e Q q =>
  ha H1 e _ fun x H2 e2 fx => hr x H2 (e.tr e2) (fx H2 .refl) Q fun v H3 e3 fv => q v H3 (e2.tr e3) fv
/-! ints, truths, texts -/
theorem ev_i0 {g : Int → Int → V} {i j : Int} (ha : Ev z ta σ H (Is (.int i))) (hb : Ev z tb σ H (Is (.int j))) : Ev z (tOp (rI0 g) ta tb) σ H (Is (g i j)) :=
  ev_op2 ha hb fun H1 r => rn_val r.dr (fun Q q => ⟨i, j, rfl, rfl, q⟩) fun _ _ => rfl
theorem ev_i {C : Int → Int → Prop} {g : Int → Int → V} {i j : Int} (ha : Ev z ta σ H (Is (.int i))) (hb : Ev z tb σ H (Is (.int j))) (hc : C i j) : Ev z (tOp (rI C g) ta tb) σ H (Is (g i j)) :=
  ev_op2 ha hb fun H1 r => rn_val r.dr (fun Q q => ⟨i, j, rfl, rfl, hc, q⟩) fun _ _ => rfl
theorem ev_eq {x y : V} (ha : Ev z ta σ H (Is x)) (hb : Ev z tb σ H (Is y)) (hc : scal x y = true) : Ev z (tOp rEq ta tb) σ H (Is (.bl (decide (x = y)))) :=
  ev_op2 ha hb fun H1 r => rn_val r.dr (fun Q q => ⟨hc, q⟩) fun _ _ => rfl
theorem ev_ne {x y : V} (ha : Ev z ta σ H (Is x)) (hb : Ev z tb σ H (Is y)) (hc : scal x y = true) : Ev z (tOp rNe ta tb) σ H (Is (.bl (!decide (x = y)))) :=
  ev_op2 ha hb fun H1 r => rn_val r.dr (fun Q q => ⟨hc, q⟩) fun _ _ => rfl
theorem ev_to {x y : V} (h : Ev z te σ H (Is x)) (e : x = y) : Ev z te σ H (Is y) := e ▸ h
/-- from a value that is known to be somehow: go on with it -/
theorem Ev.byI {n : Nat} (h : Ev z te σ H (Nn n)) {k : VK → Hp → VK → Prop} : True := trivial

/-! ### tests -/
variable {t u : TT} {P1 P2 P3 : Bool → Prop}
theorem EvT.imp (h : EvT z t σ H P1) (i : ∀ b, P1 b → P2 b) : EvT z t σ H P2 := fun H1 e Q q => h H1 e Q fun b H2 e2 p => q b H2 e2 (i b p)
theorem EvT.up {H' : Hp} (r : z.R H H') (h : EvT z t σ H P1) : EvT z t σ H' P1 := fun H1 r1 => h H1 (r.tr r1)
theorem et_test {b : Bool} (h : Ev z te σ H (Is (.bl b))) : EvT z (tTest te) σ H (· = b) := fun H1 e Q q => h H1 e _ fun v H2 e2 f => ⟨b, f H2 .refl, q b H2 e2 rfl⟩
theorem et_B {b : Bool} (h : Ev z te σ H (Is (.bl b))) : EvT z (tB te) σ H (· = b) := fun H1 e Q q => h H1 e _ fun v H2 e2 f => ⟨b, f H2 .refl, q b H2 e2 rfl⟩
theorem et_not {b : Bool} (h : EvT z t σ H (· = b)) : EvT z (tNot t) σ H (· = !b) := fun H1 e Q q => h H1 e _ fun c H2 e2 p => q _ H2 e2 (by rw [p])
theorem et_and {a b : Bool} (h1 : EvT z t σ H (· = a)) (h2 : a = true → EvT z u σ H (· = b)) : EvT z (tAnd t u) σ H (· = (a && b)) := fun H1 e Q q => h1 H1 e _ fun c H2 e2 p => by
  subst p
  cases c with
  | true => exact h2 rfl H2 (e.tr e2) Q fun d H3 e3 p => q d H3 (e2.tr e3) p
  | false => exact q false H2 e2 rfl
theorem et_or {a b : Bool} (h1 : EvT z t σ H (· = a)) (h2 : a = false → EvT z u σ H (· = b)) : EvT z (tOr t u) σ H (· = (a || b)) := fun H1 e Q q => h1 H1 e _ fun c H2 e2 p => by
  subst p
  cases c with
  | false => exact h2 rfl H2 (e.tr e2) Q fun d H3 e3 p => q d H3 (e2.tr e3) p
  | true => exact q true H2 e2 rfl
theorem et_to {a b : Bool} (h : EvT z t σ H (· = a)) (e : a = b) : EvT z t σ H (· = b) := e ▸ h
theorem ev_and {a b : Bool} (h1 : Ev z ta σ H (Is (.bl a))) (h2 : a = true → Ev z tb σ H (Is (.bl b))) : Ev z (tAndV ta tb) σ H (Is (.bl (a && b))) := fun H1 e Q q => h1 H1 e _ fun c H2 e2 p => ⟨a, p H2 .refl, by
  cases a with
  | true => exact h2 rfl H2 (e.tr e2) Q fun d H3 e3 p => q d H3 (e2.tr e3) p
  | false => exact q _ H2 e2 fun _ _ => rfl⟩
theorem ev_or {a b : Bool} (h1 : Ev z ta σ H (Is (.bl a))) (h2 : a = false → Ev z tb σ H (Is (.bl b))) : Ev z (tOrV ta tb) σ H (Is (.bl (a || b))) := fun H1 e Q q => h1 H1 e _ fun c H2 e2 p => ⟨a, p H2 .refl, by
  cases a with
  | false => exact h2 rfl H2 (e.tr e2) Q fun d H3 e3 p => q d H3 (e2.tr e3) p
  | true => exact q _ H2 e2 fun _ _ => rfl⟩
theorem ev_not {a : Bool} (h1 : Ev z ta σ H (Is (.bl a))) : Ev z (tNotV ta) σ H (Is (.bl (!a))) := fun H1 e Q q => h1 H1 e _ fun c H2 e2 p => ⟨a, p H2 .refl, q _ H2 e2 fun _ _ => rfl⟩
theorem ev_if {b : Bool} (h : EvT z t σ H (· = b)) (h1 : b = true → Ev z ta σ H φ) (h2 : b = false → Ev z tb σ H φ) : Ev z (tIf t ta tb) σ H φ := fun H1 e Q q => h H1 e _ fun c H2 e2 p => by
  subst p
  cases c with
  | true => exact h1 rfl H2 (e.tr e2) Q fun d H3 e3 p => q d H3 (e2.tr e3) p
  | false => exact h2 rfl H2 (e.tr e2) Q fun d H3 e3 p => q d H3 (e2.tr e3) p
/-- a chain of two comparisons of known values, each a truth -/
theorem ev_chain {r r' : R2} {x y w : V} {a b : Bool} (ha : Ev z ta σ H (Is x)) (hb : Ev z tb σ H (Is y)) (hc : a = true → Ev z tc σ H (Is w)) (hr : ∀ H1, z.R H H1 → Rn z (r x y H1) H1 (Is (.bl a))) (hr' : ∀ H1, z.R H H1 → Rn z (r' y w H1) H1 (Is (.bl b))) :
    Ev z (tChain r r' ta tb tc) σ H (Is (.bl (a && b))) := fun H1 e Q q => ha H1 e _ fun x1 H2 e2 fx => hb H2 (e.tr e2) _ fun y1 H3 e3 fy => by
  have ex : x1 = x := fx H2 .refl
  have ey : y1 = y := fy H3 .refl
  subst ex
  subst ey
  refine hr H3 ((e.tr e2).tr e3) _ fun v H4 e4 fv => ⟨a, fv H4 .refl, ?_⟩
  cases a with
  | false => exact q _ H4 ((e2.tr e3).tr e4) fun _ _ => rfl
  | true =>
    refine hc rfl H4 (((e.tr e2).tr e3).tr e4) _ fun w1 H5 e5 fw => ?_
    have ew : w1 = w := fw H5 .refl
    subst ew
    exact hr' H5 ((((e.tr e2).tr e3).tr e4).tr e5) Q fun v H6 e6 f6 => q v H6 ((((e2.tr e3).tr e4).tr e5).tr e6) f6

/-! ### lists of arguments, displays -/
theorem ea_nil : EvA z tNil σ H (fun vs _ => vs = []) := fun H1 _ Q q => q [] H1 (Zn.R.dr ‹_›) fun _ _ => rfl
theorem ea_cons {tr : TA} {Φ : List V → Hp → Prop} (h : Ev z te σ H φ) (hr : ∀ v H1, z.R H H1 → φ v H1 → EvA z tr σ H1 Φ) : EvA z (tCons te tr) σ H (fun vs H' => ∃ v r, vs = v :: r ∧ φ v H' ∧ Φ r H') := fun H1 e Q q =>
  h H1 e _ fun v H2 e2 fv => hr v H2 (e.tr e2) (fv H2 .refl) H2 e2.dr _ fun vs H3 e3 fr => q _ H3 (e2.tr e3) fun H4 w => ⟨v, vs, rfl, fv H4 (e3.w.tr w), fr H4 w⟩
theorem EvA.imp {ta : TA} {Φ Ψ : List V → Hp → Prop} (h : EvA z ta σ H Φ) (i : ∀ vs H', z.W H H' → Φ vs H' → Ψ vs H') : EvA z ta σ H Ψ := fun H1 r Q q => h H1 r Q fun v H2 r2 f => q v H2 r2 fun H3 w => i v H3 ((r.tr r2).w.tr w) (f H3 w)
theorem EvA.up {H' : Hp} {ta : TA} {Φ : List V → Hp → Prop} (r : z.R H H') (h : EvA z ta σ H Φ) : EvA z ta σ H' Φ := fun H1 r1 => h H1 (r.tr r1)
/-- known arguments -/
theorem ea_is {v : V} {vs : List V} {tr : TA} (h : Ev z te σ H (Is v)) (hr : EvA z tr σ H (fun ws _ => ws = vs)) : EvA z (tCons te tr) σ H (fun ws _ => ws = v :: vs) :=
  (ea_cons h fun _ H1 r _ => hr.up r).imp fun ws H' _ ⟨a, b, e, e1, e2⟩ => by rw [e, show a = v from e1, e2]
/-- a new list, a new tuple at p -/
def Lst (z : Zn) (Φ : List V → Hp → Prop) : VP := fun v H => ∃ p ws, v = .ref p ∧ ¬ z.U p ∧ H p = some (.lst ws) ∧ Φ ws H
def Tup (z : Zn) (Φ : List V → Hp → Prop) : VP := fun v H => ∃ p ws, v = .ref p ∧ ¬ z.U p ∧ H p = some (.tup ws) ∧ Φ ws H
theorem ev_lst {ta : TA} {Φ : List V → Hp → Prop} (h : EvA z ta σ H Φ) (hl : ∀ vs H', Φ vs H' → vs.length ≤ 100000) : Ev z (tLst ta) σ H (Lst z Φ) := fun H1 e Q q =>
  h H1 e _ fun vs H2 e2 f => ⟨Nat.le_trans (hl _ _ (f H2 .refl)) (by decide), fun p hp => q _ _ (e2.tr (e2.dr.new hp)) fun H3 w =>
    ⟨p, vs, rfl, e2.dr.nu hp, w p _ (e2.dr.nu hp) upd_same, f H3 ((e2.dr.new hp).w.tr w)⟩⟩
theorem ev_tup {ta : TA} {Φ : List V → Hp → Prop} (h : EvA z ta σ H Φ) (hl : ∀ vs H', Φ vs H' → vs.length ≤ 100000) : Ev z (tTup ta) σ H (Tup z Φ) := fun H1 e Q q =>
  h H1 e _ fun vs H2 e2 f => ⟨Nat.le_trans (hl _ _ (f H2 .refl)) (by decide), fun p hp => q _ _ (e2.tr (e2.dr.new hp)) fun H3 w =>
    ⟨p, vs, rfl, e2.dr.nu hp, w p _ (e2.dr.nu hp) upd_same, f H3 ((e2.dr.new hp).w.tr w)⟩⟩
/-- xs[i], the list just made, i known to be somehow -/
theorem ev_ixl {K : PySem.W.Frag} {Φ : List V → Hp → Prop} (ha : Ev z ta σ H (Lst z Φ)) (hb : ∀ (x : V) H1, z.R H H1 → Ev z tb σ H1 ψ) (hr : ∀ ws y H1, z.R H H1 → Φ ws H1 → ψ y H1 → ∃ (i : Nat) (v : V), y = .int (i : Int) ∧ ws[i]? = some v ∧ ∀ H2, z.W H1 H2 → χ v H2) :
    Ev z (tOp (rIxL K) ta tb) σ H χ := ev_op ha (fun x H1 r _ => hb x H1 r) fun x y H1 r ⟨p, ws, ex, nu, hp, fw⟩ fy => by
  obtain ⟨i, v, ey, ew, fv⟩ := hr ws y H1 r fw fy
  exact rn_val r.dr (fun Q q => ⟨p, ws, i, v, ex, ey, .inl (.inl hp), atI_nat ew, q⟩) fv

/-! ### calls -/
theorem ev_call {sp : Sp} {dvs : List V} {E : XK} {t : TA} {Φ : List V → Hp → Prop} (h : EvA z t σ H Φ) (hs : ∀ vs H1, z.R H H1 → Φ vs H1 → Rn z (fun Q => sp (vs ++ dvs) H1 Q E) H1 χ) : Ev z (tCall sp dvs E t) σ H χ := fun H1 e Q q =>
  h H1 e _ fun vs H2 e2 f => hs vs H2 (e.tr e2) (f H2 .refl) Q fun v H3 e3 fv => q v H3 (e2.tr e3) fv
theorem ev_cb {r : List V → Hp → VK → Prop} {t : TA} {Φ : List V → Hp → Prop} (h : EvA z t σ H Φ) (hs : ∀ vs H1, z.R H H1 → Φ vs H1 → Rn z (r vs H1) H1 χ) : Ev z (tCB r t) σ H χ := fun H1 e Q q =>
  h H1 e _ fun vs H2 e2 f => hs vs H2 (e.tr e2) (f H2 .refl) Q fun v H3 e3 fv => q v H3 (e2.tr e3) fv
theorem ev_callN {n m : Nat} {sp : Sp} {gV : List V → List V → List V} {E : XK} {t tk : TA} {Φ Ψ : List V → Hp → Prop} (h : EvA z t σ H Φ) (hk : ∀ vs H1, z.R H H1 → Φ vs H1 → EvA z tk σ H1 Ψ)
    (hs : ∀ vs zs H1, z.R H H1 → Φ vs H1 → Ψ zs H1 → vs.length = n ∧ zs.length = m ∧ Rn z (fun Q => sp (gV vs zs) H1 Q E) H1 χ) : Ev z (tCallN n m sp gV E t tk) σ H χ := fun H1 e Q q =>
  h H1 e _ fun vs H2 e2 f => hk vs H2 (e.tr e2) (f H2 .refl) H2 e2.dr _ fun zs H3 e3 g => by
    obtain ⟨l1, l2, l3⟩ := hs vs zs H3 ((e.tr e2).tr e3) (f H3 e3.w) (g H3 .refl)
    exact ⟨l1, l2, l3 Q fun v H4 e4 fv => q v H4 ((e2.tr e3).tr e4) fv⟩

/-! ### slices -/
theorem eo_none : EvO z tNoPart σ H (· = none) := fun H1 e Q q => q none H1 e.dr rfl
theorem eo_some {i : Int} (h : Ev z te σ H (Is (.int i))) : EvO z (tPart te) σ H (· = some i) := fun H1 e Q q => h H1 e _ fun v H2 e2 f => ⟨i, f H2 .refl, q _ H2 e2 rfl⟩
theorem ev_sl {r : V → Option Int → Option Int → Hp → VK → Prop} {tl th : TO} {lo hi : Option Int} (h : Ev z te σ H φ) (h1 : EvO z tl σ H (· = lo)) (h2 : EvO z th σ H (· = hi)) (hr : ∀ x H1, z.R H H1 → φ x H1 → Rn z (r x lo hi H1) H1 χ) :
    Ev z (L2.tSl r te tl th) σ H χ := fun H1 e Q q => h H1 e _ fun v H2 e2 f => h1 H2 (e.tr e2) _ fun o1 H3 e3 p1 => h2 H3 ((e.tr e2).tr e3) _ fun o2 H4 e4 p2 => by
  subst p1
  subst p2
  exact hr v H4 (((e.tr e2).tr e3).tr e4) (f H4 (e3.tr e4).w) Q fun v H5 e5 fv => q v H5 (((e2.tr e3).tr e4).tr e5) fv

/-! ### statements -/
variable {D : Ends} {ts tw : TS} {g : TG}
theorem s_set {i : Nat} (hR : z.R H H) (h : Ev z te σ H φ) (k : ∀ v H1, z.R H H1 → (∀ H2, z.W H1 H2 → φ v H2) → D.nx (σ.set i (some v)) H1) : tAsg te (gName i) D σ H := h H hR _ fun v H1 e f => k v H1 e f
theorem s_ret (hR : z.R H H) (h : Ev z te σ H φ) (k : ∀ v H1, z.R H H1 → (∀ H2, z.W H1 H2 → φ v H2) → D.rt v H1) : tRet te D σ H := h H hR _ fun v H1 e f => k v H1 e f
theorem s_if {b : Bool} (hR : z.R H H) (h : EvT z t σ H (· = b)) (h1 : b = true → ∀ H1, z.R H H1 → ts D σ H1) (h2 : b = false → ∀ H1, z.R H H1 → tw D σ H1) : tIfS t ts tw D σ H := h H hR _ fun c H1 e p => by
  subst p
  cases c with
  | true => exact h1 rfl H1 e
  | false => exact h2 rfl H1 e
/-- if without else -/
theorem s_if0 {b : Bool} (hR : z.R H H) (h : EvT z t σ H (· = b)) (h1 : b = true → ∀ H1, z.R H H1 → ts D σ H1) (h2 : b = false → ∀ H1, z.R H H1 → D.nx σ H1) : tIfS t ts tNext D σ H := s_if hR h h1 h2
/-! .. with what stands behind them -/
variable {tu : TS}
theorem q_set {i : Nat} (hR : z.R H H) (h : Ev z te σ H φ) (k : ∀ v H1, z.R H H1 → (∀ H2, z.W H1 H2 → φ v H2) → tu D (σ.set i (some v)) H1) : tSeq (tAsg te (gName i)) tu D σ H := h H hR _ fun v H1 e f => k v H1 e f
theorem q_if {b : Bool} (hR : z.R H H) (h : EvT z t σ H (· = b)) (h1 : b = true → ∀ H1, z.R H H1 → ts { D with nx := tu D } σ H1) (h2 : b = false → ∀ H1, z.R H H1 → tu D σ H1) : tSeq (tIfS t ts tNext) tu D σ H := s_if (D := { D with nx := tu D }) hR h h1 h2
theorem q_par {i j : Nat} {ta : TA} {Φ : V → V → Hp → Prop} (hR : z.R H H) (h : EvA z ta σ H (fun vs H' => ∃ v w, vs = [v, w] ∧ Φ v w H')) (k : ∀ v w H1, z.R H H1 → (∀ H2, z.W H1 H2 → Φ v w H2) → tu D ((σ.set i (some v)).set j (some w)) H1) : tSeq (tPar i j ta) tu D σ H :=
  h H hR _ fun vs H1 e f => by
    obtain ⟨v, w, ev, _⟩ := f H1 .refl
    refine ⟨v, w, ev, k v w H1 e fun H2 w2 => ?_⟩
    obtain ⟨v', w', e', q⟩ := f H2 w2
    rw [ev] at e'
    cases e'
    exact q
end
end FB

set_option Elab.async false
set_option linter.all false
set_option maxRecDepth 100000
set_option maxHeartbeats 4000000
/-! FB, part d: what loops and comprehensions walk; comprehensions; built-ins. -/
namespace FB
open PySem PySem.Spec PyProof.Rows L2

/-- J walks n turns over things that stand still in the zone -/
structure Srcs (z : Zn) (J : It) (H : Hp) (n : Nat) (it : Nat → V → Prop) : Prop where
  go : ∀ i H', z.W H H' → i < n → J.go i H'
  stop : ∀ H', z.W H H' → J.stop n H'
  yld : ∀ i H' x H'', z.W H H' → i < n → J.yld i H' x H'' → H'' = H' ∧ it i x
def EvI (z : Zn) (wi : TI) (σ : L2.St) (H : Hp) (P : Nat → Prop) (it : Nat → V → Prop) : Prop :=
  ∀ H1, z.R H H1 → ∀ R' : It → Hp → Prop, (∀ J H2 n, P n → z.R H1 H2 → Srcs z J H2 n it → R' J H2) → wi σ H1 R'
section
variable {z : Zn} {K : PySem.W.Frag} {σ : L2.St} {H : Hp} {te : TE} {ta : TA}
theorem ei_rangeP {P : Nat → Prop} (h : EvA z ta σ H (fun vs _ => ∃ n : Nat, vs = [.int (n : Int)] ∧ n ≤ 1000000 ∧ P n)) : EvI z (iRng1 ta) σ H P (fun i v => v = .int (i : Int)) := fun H1 e R' k =>
  h H1 e _ fun vs H2 e2 f => by
    obtain ⟨n, e3, hn, hP⟩ := f H2 .refl
    exact ⟨n, e3, by omega, by omega, k _ H2 _ hP e2 ⟨fun i _ _ hi => hi, fun _ _ => Nat.le_refl _, fun i H' x H'' _ _ y => ⟨y.1, by rw [y.2, Int.zero_add]⟩⟩⟩
theorem ei_range {n : Nat} (h : EvA z ta σ H (fun vs _ => vs = [.int (n : Int)])) (h0 : n ≤ 1000000) : EvI z (iRng1 ta) σ H (· = n) (fun i v => v = .int (i : Int)) := ei_rangeP (h.imp fun vs H' _ e => ⟨n, e, h0, rfl⟩)
theorem ei_str {x : Str} (h : Ev z te σ H (Is (.str x))) : EvI z (iStr te) σ H (· = x.cps.size) (fun i v => ∃ c, x.cps[i]? = some c ∧ v = .str ⟨#[c]⟩) := fun H1 e R' k =>
  h H1 e _ fun v H2 e2 f => ⟨x, f H2 .refl, k _ H2 _ rfl e2 ⟨fun i _ _ hi => hi, fun _ _ => Nat.le_refl _, fun i H' x H'' _ _ y => y⟩⟩
theorem srcs_lst {H : Hp} {a : Addr} {xs : List V} (nu : ¬ z.U a) (h : SqL K H a xs) : Srcs z (Itl K a) H xs.length (fun i v => xs[i]? = some v) := by
  have k : ∀ H', z.W H H' → SqL K H' a xs := fun H' w => by
    rcases h with (h | ⟨o, h⟩) | h
    · exact .inl (.inl (w a _ nu h))
    · exact .inl (.inr ⟨o, w a _ nu h⟩)
    · exact .inr h
  exact ⟨fun i H' w hi => ⟨xs, xs[i], k H' w, List.getElem?_eq_getElem hi⟩, fun H' w => ⟨xs, k H' w, Nat.le_refl _⟩, fun i H' x H'' w _ y => ⟨y.1, y.2 xs (k H' w)⟩⟩
theorem srcs_tup {H : Hp} {a : Addr} {xs : List V} (nu : ¬ z.U a) (h : H a = some (.tup xs)) : Srcs z (Itt K a) H xs.length (fun i v => xs[i]? = some v) := by
  have k : ∀ H', z.W H H' → SqT K H' a xs := fun H' w => .inl (.inl (w a _ nu h))
  exact ⟨fun i H' w hi => ⟨xs, xs[i], k H' w, List.getElem?_eq_getElem hi⟩, fun H' w => ⟨xs, k H' w, Nat.le_refl _⟩, fun i H' x H'' w _ y => ⟨y.1, y.2 xs (k H' w)⟩⟩
theorem ei_lst {xs : List V} (h : Ev z te σ H (Lst z fun ws _ => ws = xs)) : EvI z (iList K te) σ H (· = xs.length) (fun i v => xs[i]? = some v) := fun H1 e R' k =>
  h H1 e _ fun v H2 e2 f => by
    obtain ⟨p, ws, ev, nu, hp, ew⟩ := f H2 .refl
    subst ew
    exact ⟨p, ev, ⟨ws, .inl (.inl hp)⟩, k _ H2 _ rfl e2 (srcs_lst nu (.inl (.inl hp)))⟩
theorem ei_tup {xs : List V} (h : Ev z te σ H (Tup z fun ws _ => ws = xs)) : EvI z (iTup K te) σ H (· = xs.length) (fun i v => xs[i]? = some v) := fun H1 e R' k =>
  h H1 e _ fun v H2 e2 f => by
    obtain ⟨p, ws, ev, nu, hp, ew⟩ := f H2 .refl
    subst ew
    exact ⟨p, ev, ⟨ws, .inl (.inl hp)⟩, k _ H2 _ rfl e2 (srcs_tup nu hp)⟩

/-- [elt for x in source], each item's φ -/
theorem ev_lc {wi : TI} {j : Nat} {P : Nat → Prop} {vs : List Nat} {it : Nat → V → Prop} {φ : Nat → VP} (hs : EvI z wi σ H P it) (hn : ∀ n, P n → n ≤ 100000) (hv : ∀ x, wipe ((wipe σ vs).set j (some x)) vs = wipe σ vs)
    (hb : ∀ n i x D H1, P n → i < n → it i x → H D = none → z.R H H1 → (z.add D).R H1 H1 → Ev (z.add D) te ((wipe σ vs).set j (some x)) H1 (φ i)) :
    Ev z (tLc wi (gName j) tYes te vs) σ H (Lst z fun ws H' => P ws.length ∧ ∀ i w, ws[i]? = some w → φ i w H') := fun H1 e Q q => by
  refine hs H1 e _ fun J H2 n hP e2 S D hD => ?_
  have hn2 := hn n hP
  have hD0 : H D = none := (e.tr e2).back hD
  have nU : ¬ z.U D := e2.dr.nu hD
  have nI : z.I D = none := e2.dr.ni hD
  refine ⟨fun i m H' => i + m = n ∧ z.R H2 H' ∧ ∃ acc : List V, H' D = some (.lst acc) ∧ acc.length = i ∧ ∀ k w, acc[k]? = some w → ∀ H3, (z.add D).W H' H3 → φ k w H3,
    ⟨n, by omega, e2.dr.new hD, [], upd_same, rfl, fun k w h => by simp at h⟩, fun i m H' hW => ?_⟩
  obtain ⟨em, r, acc, hacc, hl, hφ⟩ := hW
  have w2 : z.W H2 H' := r.w
  by_cases hi : i < n
  · right
    refine ⟨S.go i H' w2 hi, fun H'' => z.R H2 H'' ∧ ∃ acc : List V, H'' D = some (.lst acc) ∧ acc.length = i + 1 ∧ ∀ k w, acc[k]? = some w → ∀ H3, (z.add D).W H'' H3 → φ k w H3,
      fun H'' h => ⟨m - 1, by omega, by omega, h⟩, fun x H'' hy => ?_⟩
    obtain ⟨rfl, hx⟩ := S.yld i H' x H'' w2 hi hy
    have rD : (z.add D).R H'' H'' := r.dr.up (by rw [hacc]; simp) (by rw [hacc]; simp)
    refine ⟨hv x, ?_⟩
    refine hb n i x D H'' hP hi hx hD0 ((e.tr e2).tr r) rD H'' rD _ fun y H4 e4 fy => ?_
    have h4D : H4 D = some (.lst acc) := e4.kp D _ nI hacc
    refine ⟨acc, h4D, Nat.lt_of_le_of_lt (show acc.length ≤ 100000 by omega) (by decide), (r.tr e4.dn).mut hD, acc ++ [y], upd_same, by rw [List.length_append, hl]; rfl, fun k w hk H3 w3 => ?_⟩
    have w45 : (z.add D).W H4 (upd H4 D (.lst (acc ++ [y]))) := fun a o na ha => by
      rw [upd_ne fun ea => na (Or.inr ea)]
      exact ha
    by_cases hk2 : k < acc.length
    · rw [List.getElem?_append_left hk2] at hk
      exact hφ k w hk H3 ((e4.w.tr w45).tr w3)
    · have ek : k = acc.length := by
        have h5 := (List.getElem?_eq_some_iff.mp hk).1
        rw [List.length_append, List.length_cons, List.length_nil] at h5
        omega
      subst ek
      rw [List.getElem?_append_right (Nat.le_refl _), Nat.sub_self] at hk
      have ey : y = w := Option.some.inj hk
      subst ey
      rw [hl]
      exact fy H3 (w45.tr w3)
  · left
    have ei : i = n := by omega
    subst ei
    exact ⟨S.stop H' w2, q _ H' (e2.tr r) fun H3 w3 => ⟨D, acc, rfl, nU, w3 D _ nU hacc, hl ▸ hP, fun k w hk => hφ k w hk H3 w3.dn⟩⟩

/-! ### lists of truths -/
theorem bl_of {α : Type} {xs : List α} {g : α → Bool} {ws : List V} (hl : ws.length = xs.length) (h : ∀ (i : Nat) w, ws[i]? = some w → ∃ x, xs[i]? = some x ∧ w = .bl (g x)) : ws = (xs.map g).map V.bl := by
  apply List.ext_getElem?
  intro i
  rw [List.getElem?_map, List.getElem?_map]
  cases e : ws[i]? with
  | none =>
    have := List.getElem?_eq_none_iff.mp e
    rw [List.getElem?_eq_none (by omega)]
    rfl
  | some w =>
    obtain ⟨x, hx, ew⟩ := h i w e
    rw [hx, ew]
    rfl
theorem ev_all {bs : List Bool} {te : TE} (h : Ev z te σ H (Lst z fun ws _ => ws = bs.map V.bl)) : Ev z (tCB (rAll K) (tCons te tNil)) σ H (Is (.bl (bs.all id))) := fun H1 e Q q =>
  h H1 e _ fun v H2 e2 f => by
    obtain ⟨p, ws, ev, nu, hp, ew⟩ := f H2 .refl
    exact ⟨p, bs, by rw [ev], .inl (.inl (by rw [hp, ew])), q _ H2 e2 fun _ _ => rfl⟩
/-- all([g(c) for c in text]) | all([g(v) for v in tuple]) -/
theorem ev_allS {x : Str} {j : Nat} {vs : List Nat} {ts : TE} {g : Nat → Bool} (h : Ev z ts σ H (Is (.str x))) (hn : x.length ≤ 100000) (hv : ∀ v, wipe ((wipe σ vs).set j (some v)) vs = wipe σ vs)
    (hb : ∀ (c : Nat) (D : Addr) H1, c ∈ x.cps.toList → (z.add D).R H1 H1 → Ev (z.add D) te ((wipe σ vs).set j (some (.str ⟨#[c]⟩))) H1 (Is (.bl (g c)))) :
    Ev z (tCB (rAll K) (tCons (tLc (iStr ts) (gName j) tYes te vs) tNil)) σ H (Is (.bl (x.cps.toList.all g))) := by
  have hl := ev_lc (φ := fun i w _ => ∃ c, x.cps.toList[i]? = some c ∧ w = .bl (g c)) (ei_str h) (fun n e => by rw [e]; exact hn) hv fun n i v D H1 _ hi hx hD r rD => by
    obtain ⟨c, hc, rfl⟩ := hx
    have hc2 : x.cps.toList[i]? = some c := by rw [Array.getElem?_toList]; exact hc
    exact (hb c D H1 (List.mem_of_getElem? hc2) rD).imp fun v H' _ e => ⟨c, hc2, e⟩
  refine ev_to (ev_all (bs := x.cps.toList.map g) (hl.imp fun v H' _ ⟨p, ws, e1, e2, e3, e4, e5⟩ => ⟨p, ws, e1, e2, e3, bl_of (by rw [e4]; rfl) e5⟩)) ?_
  rw [List.all_map]
  rfl
theorem ev_allT {xs : List V} {j : Nat} {vs : List Nat} {ts : TE} {g : V → Bool} (h : Ev z ts σ H (Tup z fun ws _ => ws = xs)) (hn : xs.length ≤ 100000) (hv : ∀ v, wipe ((wipe σ vs).set j (some v)) vs = wipe σ vs)
    (hb : ∀ (v : V) (D : Addr) H1, v ∈ xs → H D = none → z.R H H1 → (z.add D).R H1 H1 → Ev (z.add D) te ((wipe σ vs).set j (some v)) H1 (Is (.bl (g v)))) :
    Ev z (tCB (rAll K) (tCons (tLc (iTup K ts) (gName j) tYes te vs) tNil)) σ H (Is (.bl (xs.all g))) := by
  have hl := ev_lc (φ := fun i w _ => ∃ c, xs[i]? = some c ∧ w = .bl (g c)) (ei_tup (K := K) h) (fun n e => by rw [e]; exact hn) hv fun n i v D H1 _ hi hx hD r rD =>
    (hb v D H1 (List.mem_of_getElem? hx) hD r rD).imp fun w H' _ e => ⟨v, hx, e⟩
  refine ev_to (ev_all (bs := xs.map g) (hl.imp fun v H' _ ⟨p, ws, e1, e2, e3, e4, e5⟩ => ⟨p, ws, e1, e2, e3, bl_of e4 e5⟩)) ?_
  rw [List.all_map]
  rfl
theorem ev_allL {xs : List V} {j : Nat} {vs : List Nat} {ts : TE} {g : V → Bool} (h : Ev z ts σ H (Lst z fun ws _ => ws = xs)) (hn : xs.length ≤ 100000) (hv : ∀ v, wipe ((wipe σ vs).set j (some v)) vs = wipe σ vs)
    (hb : ∀ (v : V) (D : Addr) H1, v ∈ xs → H D = none → z.R H H1 → (z.add D).R H1 H1 → Ev (z.add D) te ((wipe σ vs).set j (some v)) H1 (Is (.bl (g v)))) :
    Ev z (tCB (rAll K) (tCons (tLc (iList K ts) (gName j) tYes te vs) tNil)) σ H (Is (.bl (xs.all g))) := by
  have hl := ev_lc (φ := fun i w _ => ∃ c, xs[i]? = some c ∧ w = .bl (g c)) (ei_lst (K := K) h) (fun n e => by rw [e]; exact hn) hv fun n i v D H1 _ hi hx hD r rD =>
    (hb v D H1 (List.mem_of_getElem? hx) hD r rD).imp fun w H' _ e => ⟨v, hx, e⟩
  refine ev_to (ev_all (bs := xs.map g) (hl.imp fun v H' _ ⟨p, ws, e1, e2, e3, e4, e5⟩ => ⟨p, ws, e1, e2, e3, bl_of e4 e5⟩)) ?_
  rw [List.all_map]
  rfl

/-! ### texts -/
theorem ev_join {ts tl : TE} {s : Str} {P : List Str → Prop} (h1 : Ev z ts σ H (Is (.str s))) (h2 : Ev z tl σ H (Lst z fun ws _ => ∃ ys : List Str, ws = ys.map V.str ∧ P ys)) (hz : ∀ ys, P ys → (ys.map (·.length)).sum + ys.length * s.length ≤ 16777216) :
    Ev z (tM1 (fun x xs H Q => ∃ a p, ∃ ys : List Str, x = .str a ∧ xs = [.ref p] ∧ (SqL K H p (ys.map V.str) ∨ SqT K H p (ys.map V.str)) ∧ (ys.map (·.length)).sum + ys.length * a.length ≤ 16777216 ∧ Q (.str (Txt.join a ys)) H) ts tl) σ H
      (fun v _ => ∃ ys, P ys ∧ v = .str (Txt.join s ys)) := fun H1 e Q q =>
  h1 H1 e _ fun v H2 e2 f => ⟨⟨s, f H2 .refl⟩, h2 H2 (e.tr e2) _ fun y H3 e3 g => by
    obtain ⟨p, ws, ev, nu, hp, ys, ew, py⟩ := g H3 .refl
    exact ⟨s, p, ys, f H3 e3.w, by rw [ev], .inl (.inl (.inl (by rw [hp, ew]))), hz ys py, q _ H3 (e2.tr e3) fun _ _ => ⟨ys, py, rfl⟩⟩⟩
theorem ev_addS {ta tb : TE} {x y : Str} (ha : Ev z ta σ H (Is (.str x))) (hb : Ev z tb σ H (Is (.str y))) (hl : x.length + y.length ≤ 100000) :
    Ev z (tOp (fun x y H Q => ∃ i j, x = .str i ∧ y = .str j ∧ i.length + j.length ≤ sizeLine ∧ Q (.str (i ++ j)) H) ta tb) σ H (Is (.str (x ++ y))) :=
  ev_op2 ha hb fun H1 r => rn_val r.dr (fun Q q => ⟨x, y, rfl, rfl, Nat.le_trans hl (by decide), q⟩) fun _ _ => rfl
theorem ev_slS {tx : TE} {tl th : TO} {x : Str} {lo hi : Option Int} (h : Ev z tx σ H (Is (.str x))) (h1 : EvO z tl σ H (· = lo)) (h2 : EvO z th σ H (· = hi)) (hl : x.length ≤ 100000) : Ev z (L2.tSl rSlS tx tl th) σ H (Is (.str (cutS x lo hi))) :=
  ev_sl h h1 h2 fun v H1 r e => rn_val r.dr (fun Q q => ⟨x, e, Nat.le_trans hl (by decide), q⟩) fun _ _ => rfl
theorem ev_inC {ta tb : TE} {c : Nat} {y : Str} (ha : Ev z ta σ H (Is (.str ⟨#[c]⟩))) (hb : Ev z tb σ H (Is (.str y))) :
    Ev z (tOp (fun x y H Q => ∃ (c : Nat) (z : Str), x = .str ⟨#[c]⟩ ∧ y = .str z ∧ Q (.bl (decide (c ∈ z.cps.toList))) H) ta tb) σ H (Is (.bl (decide (c ∈ y.cps.toList)))) :=
  ev_op2 ha hb fun H1 r => rn_val r.dr (fun Q q => ⟨c, y, rfl, rfl, q⟩) fun _ _ => rfl
theorem ev_ixS {ta tb : TE} {x : Str} {i : Nat} {c : Nat} (ha : Ev z ta σ H (Is (.str x))) (hb : Ev z tb σ H (Is (.int (i : Int)))) (hl : x.length ≤ 100000) (hc : x.cps.toList[i]? = some c) : Ev z (tOp rIxS ta tb) σ H (Is (.str ⟨#[c]⟩)) :=
  ev_op2 ha hb fun H1 r => rn_val r.dr (fun Q q => ⟨x, i, c, rfl, rfl, Nat.le_trans hl (by decide), atI_nat hc, q⟩) fun _ _ => rfl

/-! ### lengths, isinstance -/
theorem ev_lenS {te : TE} {x : Str} (h : Ev z te σ H (Is (.str x))) (hl : x.length ≤ 100000) : Ev z (tCB (fun xs H Q => ∃ y n, xs = [y] ∧ LenV K y H n ∧ Q (.int n) H) (tCons te tNil)) σ H (Is (.int (x.length : Int))) := fun H1 e Q q =>
  h H1 e _ fun v H2 e2 f => ⟨.str x, x.length, by rw [show v = .str x from f H2 .refl], ⟨Nat.le_trans hl (by decide), rfl⟩, q _ H2 e2 fun _ _ => rfl⟩
theorem ev_lenT {te : TE} {xs : List V} (h : Ev z te σ H (Tup z fun ws _ => ws = xs)) : Ev z (tCB (fun xs H Q => ∃ y n, xs = [y] ∧ LenV K y H n ∧ Q (.int n) H) (tCons te tNil)) σ H (Is (.int (xs.length : Int))) := fun H1 e Q q =>
  h H1 e _ fun v H2 e2 f => by
    obtain ⟨p, ws, ev, nu, hp, ew⟩ := f H2 .refl
    subst ew
    exact ⟨v, ws.length, rfl, by rw [ev]; exact Or.inr ⟨ws, .inl (.inl hp), rfl⟩, q _ H2 e2 fun _ _ => rfl⟩
/-- the built-in type of data -/
def tyD : PyData → String
  | .none => "NoneType"
  | .bool _ => "bool"
  | .int _ => "int"
  | .str _ => "str"
  | .list _ => "list"
  | .tuple _ => "tuple"
  | .dict _ => "dict"
theorem DU.ty {U : Addr → Prop} {v : V} {d : PyData} (h : DU U H v d) : TyX K H v (.type (tyD d)) := by
  cases h with
  | non => exact .base .non
  | bl b => exact .base (.bl b)
  | int i => exact .base (.int i)
  | str x => exact .base (.str x)
  | lst n e t => exact .base (.lst e)
  | tup n e t => exact .base (.tup e)
  | dct n e t => exact .base (.dK e)
theorem ev_isi {te : TE} {d : PyData} {T : String} {b : Bool} (h : Ev z te σ H (Dd z d)) (hk : kitB (tyD d) T = some b) : Ev z (tCB (rIsi K) (tCons te (tCons (tC (.ty T)) tNil))) σ H (Is (.bl b)) := fun H1 e Q q =>
  h H1 e _ fun v H2 e2 f => ⟨v, .ty T, _, _, b, rfl, .ty T, (f H2 .refl).ty, kit_ty hk, q _ H2 e2 fun _ _ => rfl⟩
end
section
variable {z : Zn} {K : PySem.W.Frag} {σ : L2.St} {H : Hp} {te : TE} {ta tb : TE} {D : Ends} {ts : TS} {j : Nat}
/-- for x in a list just made, or in one that a name holds -/
theorem s_forL {Φ : List V → Hp → Prop} (hR : z.R H H) (h : Ev z te σ H (Lst z Φ)) (main : ∀ ws H1, z.R H H1 → (∀ H2, z.W H1 H2 → Φ ws H2) → ∃ Pv : Nat → L2.St → Hp → Prop, Pv 0 σ H1 ∧ (∀ i σ' H', Pv i σ' H' → z.W H1 H') ∧
      (∀ i x σ' H', ws[i]? = some x → Pv i σ' H' → ts { D with nx := Pv (i + 1), ct := Pv (i + 1), bk := D.nx } (σ'.set j (some x)) H') ∧ ∀ σ' H', Pv ws.length σ' H' → D.nx σ' H') : tFor (iList K te) (gName j) ts D σ H :=
  h H hR _ fun v H1 e f => by
    obtain ⟨p, ws, ev, nu, hp, fw⟩ := f H1 .refl
    have hΦ : ∀ H2, z.W H1 H2 → Φ ws H2 := fun H2 w => by
      obtain ⟨p', ws', ev', _, hp', fw'⟩ := f H2 w
      rw [ev] at ev'
      cases ev'
      rw [w p _ nu hp] at hp'
      cases hp'
      exact fw'
    obtain ⟨Pv, p0, pw, ps, pd⟩ := main ws H1 e hΦ
    refine ⟨p, ev, ⟨ws, .inl (.inl hp)⟩, for_list (K := K) (a := p) (xs := ws) Pv p0 (fun i σ' H' _ q => .inl (.inl (pw i σ' H' q p _ nu hp))) (fun i x σ' H' hx q => ps i x σ' H' hx q) pd⟩
theorem q_forL {tu : TS} {Φ : List V → Hp → Prop} (hR : z.R H H) (h : Ev z te σ H (Lst z Φ)) (main : ∀ ws H1, z.R H H1 → (∀ H2, z.W H1 H2 → Φ ws H2) → ∃ Pv : Nat → L2.St → Hp → Prop, Pv 0 σ H1 ∧ (∀ i σ' H', Pv i σ' H' → z.W H1 H') ∧
      (∀ i x σ' H', ws[i]? = some x → Pv i σ' H' → ts { D with nx := Pv (i + 1), ct := Pv (i + 1), bk := tu D } (σ'.set j (some x)) H') ∧ ∀ σ' H', Pv ws.length σ' H' → tu D σ' H') : tSeq (tFor (iList K te) (gName j) ts) tu D σ H := s_forL (D := { D with nx := tu D }) hR h main
/-- for i in range(n) -/
theorem s_forR {tn : TA} {n : Int} (hR : z.R H H) (h : EvA z tn σ H (fun vs _ => vs = [.int n])) (hn : -1000000 ≤ n ∧ n ≤ 1000000) (Pv : Nat → L2.St → Hp → Prop) (h0 : ∀ H1, z.R H H1 → Pv 0 σ H1)
    (hs : ∀ (i : Nat) σ' H', (i : Int) < n → Pv i σ' H' → ts { D with nx := Pv (i + 1), ct := Pv (i + 1), bk := D.nx } (σ'.set j (some (.int (i : Int)))) H') (hd : ∀ σ' H', Pv n.toNat σ' H' → D.nx σ' H') : tFor (iRng1 tn) (gName j) ts D σ H :=
  h H hR _ fun vs H1 e f => ⟨n, f H1 .refl, by omega, by omega, for_range (lo := 0) (n := n.toNat) Pv (h0 H1 e) (fun i σ' H' hi q => by
    show ts _ (σ'.set j (some (.int (0 + (i : Int))))) H'
    rw [Int.zero_add]
    exact hs i σ' H' (by omega) q) hd⟩
theorem q_forR {tu : TS} {tn : TA} {n : Int} (hR : z.R H H) (h : EvA z tn σ H (fun vs _ => vs = [.int n])) (hn : -1000000 ≤ n ∧ n ≤ 1000000) (Pv : Nat → L2.St → Hp → Prop) (h0 : ∀ H1, z.R H H1 → Pv 0 σ H1)
    (hs : ∀ (i : Nat) σ' H', (i : Int) < n → Pv i σ' H' → ts { D with nx := Pv (i + 1), ct := Pv (i + 1), bk := tu D } (σ'.set j (some (.int (i : Int)))) H') (hd : ∀ σ' H', Pv n.toNat σ' H' → tu D σ' H') : tSeq (tFor (iRng1 tn) (gName j) ts) tu D σ H := s_forR (D := { D with nx := tu D }) hR h hn Pv h0 hs hd
/-! lists of truths compared -/
theorem dp_bls {p : Addr} {bs : List Bool} (h : H p = some (.lst (bs.map V.bl))) : Dp K H (.ref p) (.list (bs.map PyData.bool)) := by
  refine .lst (.inl (.inl h)) ?_
  clear h
  induction bs with
  | nil => exact .nil
  | cons b r ih => exact .cons (.bl b) ih
theorem ev_neBls {as bs : List Bool} (ha : Ev z ta σ H (Lst z fun ws _ => ws = as.map V.bl)) (hb : Ev z tb σ H (Lst z fun ws _ => ws = bs.map V.bl)) (s1 : SeqAt.shaped (.list (as.map PyData.bool)) = true) (s2 : SeqAt.shaped (.list (bs.map PyData.bool)) = true) :
    Ev z (tOp (rNeD K) ta tb) σ H (Is (.bl (!PyData.eqv (.list (as.map PyData.bool)) (.list (bs.map PyData.bool))))) :=
  ev_op ha (fun _ H1 r _ => hb.up r) fun x y H1 r ⟨p, ws, e1, _, h1, e2⟩ ⟨q, vs, e3, _, h3, e4⟩ => by
    subst e2
    subst e4
    subst e1
    subst e3
    exact rn_val r.dr (fun Q k => ⟨_, _, dp_bls h1, dp_bls h3, s1, s2, k⟩) fun _ _ => rfl
theorem ev_repr {d : PyData} (h : Ev z te σ H (Dd z d)) (sm : Sm d) : Ev z (tCB rRepr (tCons te tNil)) σ H (Is (.str d.shown)) :=
  ev_cb (ea_cons h fun v H1 r _ => ea_nil) fun vs H1 r ⟨v, rr, e, hv, er⟩ => by
    subst er
    subst e
    exact rn_val r.dr (fun Q k => ⟨z.U, v, d, rfl, hv, sm, k⟩) fun _ _ => rfl
end
end FB

set_option Elab.async false
set_option linter.all false
set_option maxRecDepth 100000
set_option maxHeartbeats 4000000
/-! FB, part e: defs of a text at hand; words. -/
namespace FB
open PySem PySem.Spec PyProof.Rows L2

/-- a def of the top, where it stands -/
structure Df (K : PySem.W.Frag) (mg : Str → Option Value) (x : Str) (st : Stmt) (ps : List Str) where
  f : Addr
  fd : FuncData
  F : Fun K x x st f fd
  g : mg x = some (.ref f)
  b : Binds K fd ps []

/-- no exception leaves such a def -/
theorem fng_ok {P : Program} {w : World} {K : PySem.W.Frag} {mg : Str → Option Value} {base : Heap} {k : Nat} {x qual : Str} {st : Stmt} {f : Addr} {fd : FuncData} {N ps : List Str} {sp : Sp} (F : Fun K x qual st f fd) (S : FnScope N ps (defScope st))
    (ln : ∀ vs H Q E, sp vs H Q E → vs.length = ps.length)
    (hb : ∀ (cdv : Value) (A : Around) (outer : List Env) (s : Shared) (H : Hp) (vs : List V) (Q : VK) (E : XK), A.guards = some [] → Room k (A.deeper (envOfC qual (defScope st) s.heap.objs.size f cdv)) → sp vs H Q E →
      ∃ t, PSs (cxOf CX0 P w K mg base N qual (defScope st) f cdv A outer s H E).nox (defBody st) t ∧ t { nx := fun _ H' => Q .non H', rt := Q } (start N vs) H) : FnG P w K mg base CX0 (k + 1) f fd ps sp :=
  fng_of F S ln fun cdv A outer s H vs Q E hg hr h => let ⟨t, a, b⟩ := hb cdv A outer s H vs Q E hg hr h; ⟨t, a.nox, b⟩

/-! ### kinds of data -/
def isStrD : PyData → Bool
  | .str _ => true
  | _ => false
def isTupD : PyData → Bool
  | .tuple _ => true
  | _ => false
def isBlD : PyData → Bool
  | .bool _ => true
  | _ => false
theorem kit_str (d : PyData) : kitB (tyD d) "str" = some (isStrD d) := by
  cases d <;> (simp only [tyD, isStrD]; decide +kernel)
theorem kit_tup (d : PyData) : kitB (tyD d) "tuple" = some (isTupD d) := by
  cases d <;> (simp only [tyD, isTupD]; decide +kernel)
theorem kit_bool (d : PyData) : kitB (tyD d) "bool" = some (isBlD d) := by
  cases d <;> (simp only [tyD, isBlD]; decide +kernel)

/-! ### words -/
def low (c : Nat) : Bool := decide (97 ≤ c) && decide (c ≤ 122)
def isW (x : Str) : Bool := decide (1 ≤ x.length) && decide (x.length ≤ 8) && x.cps.toList.all low
def isWordD : PyData → Bool
  | .str x => isW x
  | _ => false
def isPathD : PyData → Bool
  | .tuple ds => decide (ds.length ≤ 6) && ds.all isWordD
  | _ => false
/-- texts not too long -/
def Sl (d : PyData) : Prop := ∀ x, d = .str x → x.length ≤ 1000
def Tl (d : PyData) : Prop := ∀ ds, d = .tuple ds → ds.length ≤ 1000 ∧ ∀ e ∈ ds, Sl e
theorem one_lt (a b : Nat) : (([a] : List Nat) < [b]) ↔ a < b := by
  rw [List.cons_lt_cons_iff]
  constructor
  · intro h
    rcases h with h | ⟨_, h⟩
    · exact h
    · cases h
  · exact fun h => Or.inl h
theorem le_a (c : Nat) : (!decide (([c] : List Nat) < [97])) = decide (97 ≤ c) := by
  by_cases h : 97 ≤ c
  · rw [decide_eq_true h, decide_eq_false (fun q => by have := (one_lt _ _).mp q; omega)]
    rfl
  · rw [decide_eq_false h, decide_eq_true ((one_lt _ _).mpr (by omega))]
    rfl
theorem le_z (c : Nat) : (!decide (([122] : List Nat) < [c])) = decide (c ≤ 122) := by
  by_cases h : c ≤ 122
  · rw [decide_eq_true h, decide_eq_false (fun q => by have := (one_lt _ _).mp q; omega)]
    rfl
  · rw [decide_eq_false h, decide_eq_true ((one_lt _ _).mpr (by omega))]
    rfl
section
variable {z : Zn} {K : PySem.W.Frag} {σ : L2.St} {H : Hp} {ta tb : TE}
theorem ev_leS {x y : Str} (ha : Ev z ta σ H (Is (.str x))) (hb : Ev z tb σ H (Is (.str y))) :
    Ev z (tOp (fun x y H Q => ∃ i j, x = .str i ∧ y = .str j ∧ Q (.bl (!decide (j.cps.toList < i.cps.toList))) H) ta tb) σ H (Is (.bl (!decide (y.cps.toList < x.cps.toList)))) :=
  ev_op2 ha hb fun H1 r => rn_val r.dr (fun Q q => ⟨x, y, rfl, rfl, q⟩) fun _ _ => rfl
theorem rn_leS {x y : Str} (hR : z.R H H) : Rn z ((fun x y H Q => ∃ i j, x = V.str i ∧ y = V.str j ∧ Q (.bl (!decide (j.cps.toList < i.cps.toList))) H : R2) (.str x) (.str y) H) H (Is (.bl (!decide (y.cps.toList < x.cps.toList)))) :=
  rn_val hR (fun Q q => ⟨x, y, rfl, rfl, q⟩) fun _ _ => rfl
theorem rn_i0 {g : Int → Int → V} {i j : Int} (hR : z.R H H) : Rn z (rI0 g (.int i) (.int j) H) H (Is (g i j)) := rn_val hR (fun Q q => ⟨i, j, rfl, rfl, q⟩) fun _ _ => rfl
end
/-- the promise of a look at a thing: f tells it -/
def spLook (ok : PyData → Prop) (f : PyData → Bool) : Sp := fun vs H Q _ => ∃ (z : Zn) (v : V) (d : PyData), vs = [v] ∧ z.R H H ∧ DU z.U H v d ∧ ok d ∧ ∀ H', z.R H H' → Q (.bl (f d)) H'
theorem spLook_len {ok : PyData → Prop} {f : PyData → Bool} : ∀ vs H Q E, spLook ok f vs H Q E → vs.length = 1 := fun vs H Q E ⟨_, _, _, e, _⟩ => by rw [e]; rfl
def isWordV : V → Bool
  | .str x => isW x
  | _ => false
theorem DU.wordV {U : Addr → Prop} {H : Hp} {v : V} {d : PyData} (h : DU U H v d) : isWordV v = isWordD d := by
  cases h <;> rfl
theorem DU.tupAt {U : Addr → Prop} {H : Hp} {v : V} {ds : List PyData} (h : DU U H v (.tuple ds)) : ∃ a vs, v = .ref a ∧ ¬ U a ∧ H a = some (.tup vs) ∧ DUA U H vs ds := by
  cases h with
  | tup n e t => exact ⟨_, _, rfl, n, e, t⟩
/-- a test of each part, told by the data -/
theorem all_of {U : Addr → Prop} {H : Hp} (g : V → Bool) (f : PyData → Bool) (k : ∀ v d, DU U H v d → g v = f d) : ∀ {vs : List V} {ds : List PyData}, DUA U H vs ds → vs.all g = ds.all f
  | _, _, .nil => rfl
  | _, _, .cons h t => by rw [List.all_cons, List.all_cons, k _ _ h, all_of g f k t]
theorem DUA.mem {U : Addr → Prop} {H : Hp} : ∀ {vs : List V} {ds : List PyData} {v : V}, DUA U H vs ds → v ∈ vs → ∃ d, d ∈ ds ∧ DU U H v d
  | _, _, _, .nil, h => by cases h
  | _, _, v, .cons h t, m => by
    rcases List.mem_cons.mp m with e | m
    · exact ⟨_, List.mem_cons_self, e ▸ h⟩
    · obtain ⟨d, hd, q⟩ := t.mem m
      exact ⟨d, List.mem_cons_of_mem _ hd, q⟩
section
variable {z : Zn} {K : PySem.W.Frag} {σ : L2.St} {H : Hp} {te : TE}
theorem ev_tupv {a : Addr} {vs : List V} {i : Nat} (e : σ[i]? = some (some (.ref a))) (n : ¬ z.U a) (h : H a = some (.tup vs)) : Ev z (tVar i) σ H (Tup z fun ws _ => ws = vs) :=
  ev_var e fun H' w => ⟨a, vs, rfl, n, w a _ n h, rfl⟩
theorem ev_look {ok : PyData → Prop} {f : PyData → Bool} {d : PyData} {E : XK} (h : Ev z te σ H (Dd z d)) (hok : ok d) : Ev z (tCall (spLook ok f) [] E (tCons te tNil)) σ H (Is (.bl (f d))) :=
  ev_call (ea_cons h fun v H1 r _ => ea_nil) fun vs H1 r ⟨v, rr, e, hv, er⟩ Q q => ⟨z, v, d, by rw [e, er]; rfl, r.dr, hv, hok, fun H' r' => q _ H' r' fun _ _ => rfl⟩
theorem ev_lookK {ok : PyData → Prop} {f : PyData → Bool} {d : PyData} {E : XK} (h : Ev z te σ H (Dd z d)) (hok : ok d) : Ev z (tCallN 0 1 (spLook ok f) (fun _ zs => zs) E tNil (tCons te tNil)) σ H (Is (.bl (f d))) :=
  ev_callN ea_nil (fun vs H1 r _ => ea_cons (h.up r) fun v H1 r _ => ea_nil) fun vs zs H1 r e0 ⟨v, rr, e, hv, er⟩ => by
    subst e0
    subst er
    subst e
    exact ⟨rfl, rfl, fun Q q => ⟨z, v, d, rfl, r.dr, hv, hok, fun H' r' => q _ H' r' fun _ _ => rfl⟩⟩
end
/-- f(x = ..), one parameter -/
theorem Df.kb1 {K : PySem.W.Frag} {mg : Str → Option Value} {x p : Str} {st : Stmt} (d : Df K mg x st [p]) (h : ∀ (kV doc pm : Value) (an : Option Addr) (cdv ct v : Value), bindArgs (PySem.W.fnOf x x (defArgs st) (defBody st) (defScope st) .none kV doc pm an cdv ct) ⟨[], [(p, v)]⟩ = pure [(p, v)]) :
    KBn K d.fd [p] 0 [p] (fun _ ws => ws) (fun _ zs => zs) := by
  obtain ⟨oc, od, kV, doc, pm, an, cdv, ct, osl, hfd, lk, hcd⟩ := d.F.ex
  refine ⟨fun s us ws _ h1 h2 => ?_, fun _ r => r⟩
  match us, ws, h1, h2 with
  | [], [v], _, _ =>
    rw [hfd]
    exact .of_eq (h kV doc pm an cdv ct v)
theorem az_list : ("abcdefghijklmnopqrstuvwxyz" : Str).cps.toList = (List.range 26).map (97 + ·) := by decide +kernel
theorem low_in (c : Nat) : low c = decide (c ∈ ("abcdefghijklmnopqrstuvwxyz" : Str).cps.toList) := by
  rw [az_list]
  unfold low
  by_cases h : 97 ≤ c ∧ c ≤ 122
  · rw [decide_eq_true h.1, decide_eq_true h.2, decide_eq_true (List.mem_map.mpr ⟨c - 97, List.mem_range.mpr (by omega), by omega⟩)]
    rfl
  · rw [decide_eq_false (p := c ∈ _) fun q => h (by
      obtain ⟨i, hi, e⟩ := List.mem_map.mp q
      have := List.mem_range.mp hi
      omega)]
    by_cases h1 : 97 ≤ c
    · rw [decide_eq_true h1, decide_eq_false fun h2 => h ⟨h1, h2⟩]
      rfl
    · rw [decide_eq_false h1]
      rfl
end FB

set_option Elab.async false
set_option linter.all false
set_option maxRecDepth 100000
set_option maxHeartbeats 4000000
/-! FB, part k: the layer's rules with the written part named, so that they stand within a comprehension's block too. -/
namespace FB
open PySem PySem.Spec PyProof.Rows L2
section
variable {X : Cx} {K : PySem.W.Frag}
theorem k_isi (h : X.K = K := by rfl) : CallR X (.builtin "isinstance") (rIsi K) := h ▸ call_isi
theorem k_len (h : X.K = K := by rfl) : CallR X (.builtin "len") (fun xs H Q => ∃ y n, xs = [y] ∧ LenV K y H n ∧ Q (.int n) H) := h ▸ call_len
theorem k_all (hc : X.calm = true := by rfl) (h : X.K = K := by rfl) : CallR X (.builtin "all") (rAll K) := h ▸ cr_all hc
theorem k_any (hc : X.calm = true := by rfl) (h : X.K = K := by rfl) : CallR X (.builtin "any") (rAny K) := h ▸ cr_any hc
theorem k_sortedS (h : X.K = K := by rfl) : CallR X (.builtin "sorted") (rSortedS K) := h ▸ cr_sortedS
theorem k_tuple (h : X.K = K := by rfl) : CallR X (.type "tuple") (fun xs H Q => ∃ p ys, xs = [.ref p] ∧ ((SqL K H p ys ∧ ∀ l, H l = none → Q (.ref l) (upd H l (.tup ys))) ∨ (SqT K H p ys ∧ Q (.ref p) H))) := h ▸ call_tuple_of
theorem k_list (h : X.K = K := by rfl) : CallR X (.type "list") (fun xs H Q => ∃ p ys, xs = [.ref p] ∧ (SqL K H p ys ∨ SqT K H p ys) ∧ ∀ l, H l = none → Q (.ref l) (upd H l (.lst ys))) := h ▸ call_list_of
theorem k_ixl (h : X.K = K := by rfl) : IxR X (rIxL K) := h ▸ ix_list
theorem k_ixt (h : X.K = K := by rfl) : IxR X (rIxT K) := h ▸ ix_tup
theorem k_sll (h : X.K = K := by rfl) : SlR X (rSlL K) := h ▸ sl_list
theorem k_slt (h : X.K = K := by rfl) : SlR X (rSlA K) := h ▸ sl_tupA
theorem k_catA (h : X.K = K := by rfl) : OpR X (binaryOp .Add) (rCatA K) := h ▸ op_catA
theorem k_repT (h : X.K = K := by rfl) : OpR X (binaryOp .Mult) (rRepT K) := h ▸ op_repT
theorem k_in (h : X.K = K := by rfl) : OpR X (compareOp .In) (rIn K false) := h ▸ op_in_seq
theorem k_notIn (h : X.K = K := by rfl) : OpR X (compareOp .NotIn) (rIn K true) := h ▸ op_notIn_seq
theorem k_eqD (hu : X.A.units + 64 < cLine) (h : X.K = K := by rfl) : OpR X (compareOp .Eq) (rEqD K) := h ▸ op_eqD hu
theorem k_neD (hu : X.A.units + 64 < cLine) (h : X.K = K := by rfl) : OpR X (compareOp .NotEq) (rNeD K) := h ▸ op_neD hu
variable {tg l : Expr} {tl : TE}
theorem k_pil (hl : PI X tg l (iList X.K tl)) (h : X.K = K := by rfl) : PI X tg l (iList K tl) := h ▸ hl
theorem k_pit (hl : PI X tg l (iTup X.K tl)) (h : X.K = K := by rfl) : PI X tg l (iTup K tl) := h ▸ hl
end
/-! is True, is not False: of a value of any kind -/
def rIsB2 : R2 := fun x y H Q => ∃ b : Bool, y = .bl b ∧ Q (.bl (decide (x = .bl b))) H
def rNotB2 : R2 := fun x y H Q => ∃ b : Bool, y = .bl b ∧ Q (.bl (!decide (x = .bl b))) H
theorem plain_bl {x : V} {v : Value} (b : Bool) (r : RelV x v) : plainIs v (.bool b) = true := by
  cases x <;> first
    | (cases r; rfl)
    | (obtain ⟨t, rfl⟩ := r; rfl)
theorem not_bl {x : V} {v : Value} {b : Bool} (r : RelV x v) (h : x ≠ .bl b) : v ≠ .bool b := fun e => by
  subst e
  cases x <;> first
    | (cases r; exact h rfl)
    | (obtain ⟨t, h⟩ := r; cases h)
    | (cases r)
theorem op_isB2 {X : Cx} : OpR X (compareOp .Is) rIsB2 := by
  intro pins s σ H x y v u Q I rx ry h
  obtain ⟨b, rfl, q⟩ := h
  cases (show u = Value.bool b from ry)
  by_cases e : x = .bl b
  · subst e
    cases (show v = Value.bool b from rx)
    exact wpAny_is_self rfl ⟨.bl true, H, I, rfl, by simpa using q⟩
  · exact wpAny_is_other (plain_bl b rx) (not_bl rx e) ⟨.bl false, H, I, rfl, by simpa [e] using q⟩
theorem op_notB2 {X : Cx} : OpR X (compareOp .IsNot) rNotB2 := by
  intro pins s σ H x y v u Q I rx ry h
  obtain ⟨b, rfl, q⟩ := h
  cases (show u = Value.bool b from ry)
  by_cases e : x = .bl b
  · subst e
    cases (show v = Value.bool b from rx)
    exact wpAny_isNot_self rfl ⟨.bl false, H, I, rfl, by simpa using q⟩
  · exact wpAny_isNot_other (plain_bl b rx) (not_bl rx e) ⟨.bl true, H, I, rfl, by simpa [e] using q⟩
section
variable {z : Zn} {σ : L2.St} {H : Hp} {ta : TE}
theorem ev_isB2 {x : V} {b : Bool} (h : Ev z ta σ H (Is x)) : Ev z (tOp rIsB2 ta (tC (.bl b))) σ H (Is (.bl (decide (x = .bl b)))) :=
  ev_op2 h ev_k fun H1 r => rn_val r.dr (fun Q q => ⟨b, rfl, q⟩) fun _ _ => rfl
theorem ev_notB2 {x : V} {b : Bool} (h : Ev z ta σ H (Is x)) : Ev z (tOp rNotB2 ta (tC (.bl b))) σ H (Is (.bl (!decide (x = .bl b)))) :=
  ev_op2 h ev_k fun H1 r => rn_val r.dr (fun Q q => ⟨b, rfl, q⟩) fun _ _ => rfl
end
end FB

set_option Elab.async false
set_option linter.all false
set_option maxRecDepth 100000
set_option maxHeartbeats 4000000
/-! FB, part p: a purse of two numbers that draws turn; the size of data. -/
namespace FB
open PySem PySem.Spec PyProof.Rows L2

/-- two numbers, the second one small -/
def IsPur : HO → Prop := fun o => ∃ a b : Int, o = .lst [.int a, .int b] ∧ 0 ≤ a ∧ 0 ≤ b ∧ b < 2147483648
section
variable {z : Zn} {K : PySem.W.Frag} {σ : L2.St} {H H' : Hp} {te to ti ta tb : TE} {D : Ends} {tu : TS}
/-- a thing that may change is changed -/
theorem Zn.R.wr {u : Addr} {o : HO} {φ : HO → Prop} (r : z.R H H') (hu : z.I u = some φ) (ho : φ o) : z.R H (upd H' u o) := by
  refine ⟨fun a x n e => ?_, r.i1, fun a ψ e => ?_, r.l1, fun a ua => ?_⟩
  · rw [upd_ne (by intro q; rw [q, hu] at n; cases n)]
    exact r.kp a x n e
  · by_cases q : a = u
    · subst q
      rw [hu] at e
      cases e
      exact ⟨o, upd_same, ho⟩
    · rw [upd_ne q]
      exact r.i2 a ψ e
  · by_cases q : a = u
    · rw [q, upd_same]; simp
    · rw [upd_ne q]; exact r.l2 a ua
/-- the zone in which all that stands stays -/
abbrev z0 : Zn := Zn.still fun _ => False
theorem z0r : z0.R H H := still_r fun _ h => h.elim
theorem z0g (r : z0.R H H') : ∀ a o, H a = some o → H' a = some o := fun a o h => r.kp a o rfl h
theorem z0w (w : z0.W H H') : ∀ a o, H a = some o → H' a = some o := fun a o h => w a o (fun f => f) h
theorem Zn.R.z0 (r : FB.z0.R H H') (h : z.R H H) : z.R H H' := h.ex (z0g r)
/-- the zone in which told values may lean on new things alone -/
abbrev zf (H : Hp) : Zn := Zn.still fun a => H a ≠ none
theorem zfr {H H' : Hp} (r : z0.R H H') : (zf H).R H' H' := still_r fun a h q => by
  cases e : H a with
  | none => exact h e
  | some o => rw [z0g r a o e] at q; cases q
theorem zf0 {H H1 H2 : Hp} (r : (zf H).R H1 H2) : z0.R H1 H2 := ⟨fun a o h e => r.kp a o h e, fun _ _ h => (by cases h), fun _ _ h => (by cases h), fun _ h => False.elim h, fun _ h => False.elim h⟩
/-- xs[i] = e -/
theorem q_sub {p : Addr} {xs : List V} {j : Nat} {v : V} (hR : z.R H H) (h : Ev z te σ H (Is v)) (ho : Ev z to σ H (Is (.ref p))) (hi : Ev z ti σ H (Is (.int (j : Int)))) (nu : ¬ z.U p) (hp : H p = some (.lst xs)) (hj : j < xs.length)
    (k : ∀ H1, z.R H H1 → tu D σ (upd H1 p (.lst (xs.set j v)))) : tSeq (tAsg te (gSub to ti rSetL)) tu D σ H := h H hR _ fun v1 H1 e1 f1 => ho H1 e1 _ fun v2 H2 e2 f2 => hi H2 (e1.tr e2) _ fun v3 H3 e3 f3 => by
  have q1 : v1 = v := f1 H1 .refl
  have q2 : v2 = .ref p := f2 H2 .refl
  have q3 : v3 = .int (j : Int) := f3 H3 .refl
  subst q1
  subst q2
  subst q3
  have r := (e1.tr e2).tr e3
  exact ⟨p, xs, (j : Int), j, rfl, rfl, r.w p _ nu hp, Evl.ixN_nat hj, k H3 r⟩
/-- xs[i] of a list that stands -/
theorem ev_ixL {p : Addr} {xs : List V} {i : Nat} {v : V} (ha : Ev z ta σ H (Is (.ref p))) (hb : Ev z tb σ H (Is (.int (i : Int)))) (nu : ¬ z.U p) (hp : H p = some (.lst xs)) (hv : xs[i]? = some v) : Ev z (tOp (rIxL K) ta tb) σ H (Is v) :=
  ev_op2 ha hb fun H1 r => rn_val r.dr (fun Q q => ⟨p, xs, i, v, rfl, rfl, .inl (.inl (r.w p _ nu hp)), atI_nat hv, q⟩) fun _ _ => rfl
end

/-- a draw's promise -/
def spTake : Sp := fun vs H Q _ => ∃ (z : Zn) (u : Addr) (n : Nat), vs = [.ref u, .int (n : Int)] ∧ z.R H H ∧ z.I u = some IsPur ∧ 0 < n ∧ n ≤ 1000000 ∧ ∀ (i : Nat) H', i < n → z.R H H' → Q (.int (i : Int)) H'
/-- a new purse -/
def spPurse (K : PySem.W.Frag) : Sp := fun vs H Q _ => ∃ (z : Zn) (a : Addr) (ns : List Int) (k : Nat), vs = [.ref a, .int (k : Int)] ∧ z.R H H ∧ SqL K H a (ns.map V.int) ∧ ns.length ≤ 1000 ∧ k ≤ 1000 ∧ ∀ (p : Addr) (o : HO) H', z.R H H' → H p = none → ¬ z.U p → H' p = some o → IsPur o → Q (.ref p) H'
section
variable {z : Zn} {K : PySem.W.Frag} {σ : L2.St} {H : Hp} {te tn : TE} {E : XK}
/-- take(u, n) -/
theorem ev_take {u : Addr} {n : Nat} (hu : z.I u = some IsPur) (h1 : Ev z te σ H (Is (.ref u))) (h2 : Ev z tn σ H (Is (.int (n : Int)))) (h0 : 0 < n) (hn : n ≤ 1000000) : Ev z (tCall spTake [] E (tCons te (tCons tn tNil))) σ H (Nn n) :=
  ev_call (ea_is h1 (ea_is h2 ea_nil)) fun vs H1 r e Q q => by
    subst e
    exact ⟨z, u, n, rfl, r.dr, hu, h0, hn, fun i H' hi r' => q _ H' r' fun _ _ => ⟨i, rfl, hi⟩⟩
/-- an int below n, then what hangs on it -/
theorem ev_byN {n : Nat} {φ : VP} {ta : TE} {r : R2} {χ : VP} (ha : Ev z ta σ H φ) : True := trivial
end

/-! ### the size of data -/
structure Lf (k m : Nat) (d : PyData) : Prop where
  sh : d.showable = true
  lf : d.leavesShort 1000 = true
  dp : d.depth ≤ k
  wt : d.weight ≤ m
theorem Lf.mono {k k' m m' : Nat} {d : PyData} (h : Lf k m d) (h1 : k ≤ k') (h2 : m ≤ m') : Lf k' m' d := ⟨h.sh, h.lf, Nat.le_trans h.dp h1, Nat.le_trans h.wt h2⟩
theorem Lf.all {k m : Nat} : ∀ {ds : List PyData}, (∀ d ∈ ds, Lf k m d) → PyData.showableAll ds = true ∧ PyData.leavesShortAll 1000 ds = true ∧ PyData.depthAll ds ≤ k ∧ PyData.weightAll ds ≤ ds.length * (m + 1)
  | [], _ => ⟨rfl, rfl, Nat.zero_le _, Nat.zero_le _⟩
  | d :: ds, h => by
    obtain ⟨a, b, c, e⟩ := Lf.all fun x hx => h x (List.mem_cons_of_mem _ hx)
    have q := h d List.mem_cons_self
    refine ⟨?_, ?_, ?_, ?_⟩
    · simp only [PyData.showableAll, q.sh, a, Bool.and_self]
    · simp only [PyData.leavesShortAll, q.lf, b, Bool.and_self]
    · simp only [PyData.depthAll]
      have := q.dp
      omega
    · simp only [PyData.weightAll, List.length_cons, Nat.add_mul, Nat.one_mul]
      have := q.wt
      omega
theorem Lf.tup {k m n : Nat} {ds : List PyData} (h : ∀ d ∈ ds, Lf k m d) (hn : ds.length ≤ n) : Lf (k + 1) (n * (m + 1)) (.tuple ds) := by
  obtain ⟨a, b, c, e⟩ := Lf.all h
  have := Nat.mul_le_mul_right (m + 1) hn
  exact ⟨by simpa only [PyData.showable] using a, by simpa only [PyData.leavesShort] using b, by simp only [PyData.depth]; omega, by simp only [PyData.weight]; omega⟩
theorem Lf.lst {k m n : Nat} {ds : List PyData} (h : ∀ d ∈ ds, Lf k m d) (hn : ds.length ≤ n) : Lf (k + 1) (n * (m + 1)) (.list ds) := by
  obtain ⟨a, b, c, e⟩ := Lf.all h
  have := Nat.mul_le_mul_right (m + 1) hn
  exact ⟨by simpa only [PyData.showable] using a, by simpa only [PyData.leavesShort] using b, by simp only [PyData.depth]; omega, by simp only [PyData.weight]; omega⟩
theorem Lf.str {x : Str} {m : Nat} (h : ∀ c ∈ x.cps.toList, c < 1000) (hl : x.length ≤ m) : Lf 0 m (.str x) :=
  ⟨rfl, by simp only [PyData.leavesShort, List.all_eq_true, decide_eq_true_eq]; exact fun c hc => Nat.lt_trans (h c hc) (by decide), Nat.le_refl _, hl⟩
theorem Lf.ln {k m : Nat} {d : PyData} (h : Lf k m d) (hm : m ≤ 9900) : d.shown.length ≤ 10000000 := by
  have q := PyData.shown_le 1000 (by decide) d h.lf
  have w := h.wt
  have : (1000 + 2) * d.weight ≤ 1002 * 9900 := Nat.mul_le_mul (Nat.le_refl _) (by omega)
  omega
theorem Lf.sm {k m : Nat} {d : PyData} (h : Lf k m d) (hk : k ≤ 40) (hm : m ≤ 9900) (mx : d.hasDict = false ∨ hasL d = false) : Sm d := ⟨h.sh, Nat.le_trans h.dp hk, h.ln hm, mx⟩
theorem nd_all : ∀ {ds : List PyData}, (∀ d ∈ ds, d.hasDict = false) → PyData.hasDictAll ds = false
  | [], _ => rfl
  | d :: ds, h => by
    simp only [PyData.hasDictAll, h d List.mem_cons_self, nd_all fun x hx => h x (List.mem_cons_of_mem _ hx), Bool.or_self]
theorem nl_all : ∀ {ds : List PyData}, (∀ d ∈ ds, hasL d = false) → hasLA ds = false
  | [], _ => by simp [hasLA]
  | d :: ds, h => by
    simp only [hasLA, h d List.mem_cons_self, nl_all fun x hx => h x (List.mem_cons_of_mem _ hx), Bool.or_self]
/-- no dict, no list within -/
structure Pl (d : PyData) : Prop where
  nd : d.hasDict = false
  nl : hasL d = false
theorem Pl.tup {ds : List PyData} (h : ∀ d ∈ ds, Pl d) : Pl (.tuple ds) := ⟨by simp only [PyData.hasDict]; exact nd_all fun d hd => (h d hd).nd, by simp only [hasL]; exact nl_all fun d hd => (h d hd).nl⟩
theorem Pl.str {x : Str} : Pl (.str x) := ⟨rfl, by simp [hasL]⟩
/-- a tuple of plain parts but one -/
theorem mx_tup {ds : List PyData} {o : PyData} (ho : o.hasDict = false ∨ hasL o = false) (h : ∀ d ∈ ds, Pl d ∨ d = o) : (PyData.tuple ds).hasDict = false ∨ hasL (.tuple ds) = false := by
  rcases ho with ho | ho
  · left
    simp only [PyData.hasDict]
    exact nd_all fun d hd => (h d hd).elim Pl.nd fun e => e ▸ ho
  · right
    simp only [hasL]
    exact nl_all fun d hd => (h d hd).elim Pl.nl fun e => e ▸ ho
end FB

set_option Elab.async false
set_option linter.all false
set_option maxRecDepth 100000
set_option maxHeartbeats 4000000
/-! FB, part q: drawn texts, items of menus, tuples cut and put together. -/
namespace FB
open PySem PySem.Spec PyProof.Rows L2

/-- a text of at most n signs, none great -/
def Txs (n : Nat) (x : Str) : Prop := x.length ≤ n ∧ ∀ c ∈ x.cps.toList, c < 1000
def Sv (n : Nat) : VP := fun v _ => ∃ x, v = .str x ∧ Txs n x
theorem Txs.mono {n m : Nat} {x : Str} (h : Txs n x) (l : n ≤ m) : Txs m x := ⟨Nat.le_trans h.1 l, h.2⟩
theorem Txs.app {n m : Nat} {x y : Str} (h : Txs n x) (h' : Txs m y) : Txs (n + m) (x ++ y) := by
  have e : (x ++ y).cps.toList = x.cps.toList ++ y.cps.toList := by
    show (x.cps ++ y.cps).toList = _
    exact Array.toList_append
  refine ⟨?_, fun c hc => ?_⟩
  · show (x.cps ++ y.cps).size ≤ n + m
    rw [Array.size_append]
    have a : x.cps.size ≤ n := h.1
    have b : y.cps.size ≤ m := h'.1
    omega
  · rw [e] at hc
    exact (List.mem_append.mp hc).elim (h.2 c) (h'.2 c)
theorem Txs.cut {n : Nat} {x : Str} {lo hi : Option Int} (h : Txs n x) : Txs n (cutS x lo hi) :=
  ⟨Nat.le_trans (cutS_length x lo hi) h.1, fun c hc => h.2 c (by
    unfold cutS at hc
    exact List.mem_of_mem_drop (List.mem_of_mem_take hc))⟩
theorem Txs.one {c : Nat} (h : c < 1000) : Txs 1 ⟨#[c]⟩ := ⟨Nat.le_refl _, fun d hd => by
  have : d = c := by simpa using hd
  rw [this]; exact h⟩
theorem sum_le_len : ∀ (ys : List Str), (∀ y ∈ ys, y.length ≤ 1) → (ys.map (·.length)).sum ≤ ys.length
  | [], _ => Nat.le_refl _
  | y :: r, h => by
    have := sum_le_len r fun x hx => h x (List.mem_cons_of_mem _ hx)
    have := h y List.mem_cons_self
    simp only [List.map_cons, List.sum_cons, List.length_cons]
    omega
theorem Txs.join {n : Nat} {ys : List Str} (h : ∀ y ∈ ys, Txs 1 y) (hl : ys.length ≤ n) : Txs n (Txt.join "" ys) := by
  rw [TL.join_eq]
  refine ⟨?_, fun c hc => ?_⟩
  · have h1 := StrLaws.join_length_le "" ys
    have h2 := sum_le_len ys fun y hy => (h y hy).1
    have h3 : ("" : Str).length = 0 := rfl
    rw [h3, Nat.mul_zero] at h1
    omega
  · rw [PyProof.Rows.mem_join] at hc
    rcases hc with ⟨t, ht, hc⟩ | ⟨_, hc⟩
    · exact (h t ht).2 c hc
    · cases hc
theorem Txs.lf {n : Nat} {x : Str} (h : Txs n x) : Lf 0 n (.str x) := .str h.2 h.1
section
variable {z : Zn} {K : PySem.W.Frag} {σ : L2.St} {H : Hp} {te tb ta : TE} {φ χ : VP}
/-- a name that holds a list: the list -/
theorem Lst.at {Φ : List V → Hp → Prop} {v : V} {H1 : Hp} (f : ∀ H2, z.W H1 H2 → Lst z Φ v H2) : ∃ p ws, v = .ref p ∧ ¬ z.U p ∧ H1 p = some (.lst ws) ∧ ∀ H2, z.W H1 H2 → Φ ws H2 := by
  obtain ⟨p, ws, e, nu, hp, _⟩ := f H1 .refl
  refine ⟨p, ws, e, nu, hp, fun H2 w => ?_⟩
  obtain ⟨p', ws', e', _, hp', q⟩ := f H2 w
  rw [e] at e'
  cases e'
  rw [w p _ nu hp] at hp'
  cases hp'
  exact q
theorem Tup.at {Φ : List V → Hp → Prop} {v : V} {H1 : Hp} (f : ∀ H2, z.W H1 H2 → Tup z Φ v H2) : ∃ p ws, v = .ref p ∧ ¬ z.U p ∧ H1 p = some (.tup ws) ∧ ∀ H2, z.W H1 H2 → Φ ws H2 := by
  obtain ⟨p, ws, e, nu, hp, _⟩ := f H1 .refl
  refine ⟨p, ws, e, nu, hp, fun H2 w => ?_⟩
  obtain ⟨p', ws', e', _, hp', q⟩ := f H2 w
  rw [e] at e'
  cases e'
  rw [w p _ nu hp] at hp'
  cases hp'
  exact q
theorem ev_lstv {i : Nat} {p : Addr} {ws : List V} {H0 : Hp} (e : σ[i]? = some (some (.ref p))) (nu : ¬ z.U p) (h : H0 p = some (.lst ws)) (w : z.W H0 H) : Ev z (tVar i) σ H (Lst z fun us _ => us = ws) :=
  ev_var e fun H' w' => ⟨p, ws, rfl, nu, (w.tr w') p _ nu h, rfl⟩
/-- an item of a menu that was just made, by a draw -/
theorem ev_menu {Φ : List V → Hp → Prop} {n : Nat} (ha : Ev z ta σ H (Lst z Φ)) (hb : ∀ (x : V) H1, z.R H H1 → Ev z tb σ H1 (Nn n)) (hΦ : ∀ ws H1, z.W H H1 → Φ ws H1 → ws.length = n ∧ ∀ w, w ∈ ws → χ w H1) : Ev z (tOp (rIxL K) ta tb) σ H χ := fun H1 e Q q =>
  ha H1 e _ fun x H2 e2 f => hb x H2 (e.tr e2) H2 e2.dr _ fun y H3 e3 g => by
    obtain ⟨p, ws, rfl, nu, hp, fw⟩ := Lst.at f
    obtain ⟨i, rfl, hi⟩ := g H3 .refl
    have hl := (hΦ ws H2 (e.tr e2).w (fw H2 .refl)).1
    have hw : ws[i]? = some (ws[i]'(by omega)) := List.getElem?_eq_getElem (by omega)
    exact ⟨p, ws, i, _, rfl, rfl, .inl (.inl (e3.w p _ nu hp)), atI_nat hw, q _ H3 (e2.tr e3) fun H4 w => (hΦ ws H4 (((e.tr e2).tr e3).w.tr w) (fw H4 (e3.w.tr w))).2 _ (List.getElem_mem _)⟩
/-- .. that a name holds -/
theorem ev_menuV {ws : List V} {n : Nat} (ha : Ev z ta σ H (Lst z fun us _ => us = ws)) (hb : ∀ (x : V) H1, z.R H H1 → Ev z tb σ H1 (Nn n)) (hl : ws.length = n) (hΦ : ∀ H1 w, z.W H H1 → w ∈ ws → χ w H1) : Ev z (tOp (rIxL K) ta tb) σ H χ :=
  ev_menu ha hb fun us H1 w e => by
    subst e
    exact ⟨hl, fun v hv => hΦ H1 v w hv⟩
/-! texts by parts -/
theorem ev_addSv {n m : Nat} (ha : Ev z ta σ H (Sv n)) (hb : ∀ (x : V) H1, z.R H H1 → Ev z tb σ H1 (Sv m)) (hn : n + m ≤ 10000) : Ev z (tOp (fun x y H Q => ∃ i j, x = .str i ∧ y = .str j ∧ i.length + j.length ≤ sizeLine ∧ Q (.str (i ++ j)) H) ta tb) σ H (Sv (n + m)) :=
  ev_op ha (fun x H1 r _ => hb x H1 r) fun x y H1 r ⟨i, e1, h1⟩ ⟨j, e2, h2⟩ => rn_val r.dr (fun Q q => ⟨i, j, e1, e2, by
    have := h1.1
    have := h2.1
    have : sizeLine = 16777216 := by decide
    omega, q⟩) fun _ _ => ⟨_, rfl, h1.app h2⟩
theorem ev_slSv {tl th : TO} {n : Nat} {lo hi : Option Int} (h : Ev z te σ H (Sv n)) (h1 : EvO z tl σ H (· = lo)) (h2 : EvO z th σ H (· = hi)) (hn : n ≤ 10000) : Ev z (L2.tSl rSlS te tl th) σ H (Sv n) :=
  ev_sl h h1 h2 fun v H1 r ⟨x, e, hx⟩ => rn_val r.dr (fun Q q => ⟨x, e, by
    have := hx.1
    have : sizeLine = 16777216 := by decide
    omega, q⟩) fun _ _ => ⟨_, rfl, hx.cut⟩
theorem ev_ixSv {n : Nat} {x : Str} (ha : Ev z ta σ H (Is (.str x))) (hb : Ev z tb σ H (Nn n)) (hl : x.length = n) (hn : n ≤ 10000) (hx : ∀ c ∈ x.cps.toList, c < 1000) : Ev z (tOp rIxS ta tb) σ H (Sv 1) :=
  ev_op ha (fun _ H1 r _ => hb.up r) fun v y H1 r e ⟨i, e2, hi⟩ => by
    have hw : x.cps.toList[i]? = some (x.cps.toList[i]'(by rw [Array.length_toList]; have h9 : x.cps.size = n := hl; omega)) := List.getElem?_eq_getElem _
    exact rn_val r.dr (fun Q q => ⟨x, i, _, e, e2, by
      have : sizeLine = 16777216 := by decide
      omega, atI_nat hw, q⟩) fun _ _ => ⟨_, rfl, Txs.one (hx _ (List.getElem_mem _))⟩
/-- the join of single signs -/
theorem ev_joinSv {ts tl : TE} {n : Nat} (h1 : Ev z ts σ H (Is (.str ""))) (h2 : Ev z tl σ H (Lst z fun ws H' => ws.length ≤ n ∧ ∀ (i : Nat) w, ws[i]? = some w → Sv 1 w H')) (hn : n ≤ 10000) :
    Ev z (tM1 (fun x xs H Q => ∃ a p, ∃ ys : List Str, x = .str a ∧ xs = [.ref p] ∧ (SqL K H p (ys.map V.str) ∨ SqT K H p (ys.map V.str)) ∧ (ys.map (·.length)).sum + ys.length * a.length ≤ 16777216 ∧ Q (.str (Txt.join a ys)) H) ts tl) σ H (Sv n) := by
  have un : ∀ ws : List V, (∀ (i : Nat) w, ws[i]? = some w → ∃ x, w = V.str x ∧ Txs 1 x) → ∃ ys : List Str, ws = ys.map V.str ∧ ys.length = ws.length ∧ ∀ y ∈ ys, Txs 1 y := by
    intro ws
    induction ws with
    | nil => exact fun _ => ⟨[], rfl, rfl, fun _ h => by cases h⟩
    | cons w r ih =>
      intro h
      obtain ⟨ys, e, hl, hy⟩ := ih fun i w hw => h (i + 1) w hw
      obtain ⟨x, ex, hx⟩ := h 0 w rfl
      refine ⟨x :: ys, by rw [ex, e]; rfl, by rw [List.length_cons, List.length_cons, hl], fun y hy' => ?_⟩
      rcases List.mem_cons.mp hy' with e | hy'
      · rw [e]; exact hx
      · exact hy y hy'
  refine (ev_join (K := K) (P := fun ys => ys.length ≤ n ∧ ∀ y ∈ ys, Txs 1 y) h1 (h2.imp fun v H' _ ⟨p, ws, e, nu, hp, hl, hw⟩ => ?_) fun ys hy => ?_).imp fun v H' _ ⟨ys, ⟨hl, hy⟩, e⟩ => ⟨_, e, Txs.join hy hl⟩
  · obtain ⟨ys, e2, hl2, hy⟩ := un ws hw
    exact ⟨p, ws, e, nu, hp, ys, e2, by omega, hy⟩
  · have := sum_le_len ys fun y h => (hy.2 y h).1
    have h3 : ("" : Str).length = 0 := rfl
    rw [h3, Nat.mul_zero]
    have := hy.1
    omega
end
/-! ### draws' promises -/
/-- a text drawn by the purse u -/
def spTxt (n : Nat) : Sp := fun vs H Q _ => ∃ (z : Zn) (u : Addr), vs = [.ref u] ∧ z.R H H ∧ z.I u = some IsPur ∧ ∀ x H', Txs n x → z.R H H' → Q (.str x) H'
/-- a text drawn by the purse u of a text -/
def spTxt2 (n m : Nat) : Sp := fun vs H Q _ => ∃ (z : Zn) (u : Addr) (x : Str), vs = [.ref u, .str x] ∧ Txs n x ∧ z.R H H ∧ z.I u = some IsPur ∧ ∀ y H', Txs m y → z.R H H' → Q (.str y) H'
/-- data drawn by the purse u -/
def spDat (P : PyData → Prop) : Sp := fun vs H Q _ => ∃ (z : Zn) (u : Addr), vs = [.ref u] ∧ z.R H H ∧ z.I u = some IsPur ∧ ∀ v d H', P d → z.R H H' → (∀ H3, z.W H' H3 → DU z.U H3 v d) → Q v H'
section
variable {z : Zn} {K : PySem.W.Frag} {σ : L2.St} {H : Hp} {te tx : TE} {E : XK}
theorem ev_txt {u : Addr} {n : Nat} (hu : z.I u = some IsPur) (h1 : Ev z te σ H (Is (.ref u))) : Ev z (tCall (spTxt n) [] E (tCons te tNil)) σ H (Sv n) :=
  ev_call (ea_is h1 ea_nil) fun vs H1 r e Q q => by
    subst e
    exact ⟨z, u, rfl, r.dr, hu, fun x H' hx r' => q _ H' r' fun _ _ => ⟨x, rfl, hx⟩⟩
theorem ev_txt2 {u : Addr} {n m : Nat} {x : Str} (hx : Txs n x) (hu : z.I u = some IsPur) (h1 : Ev z te σ H (Is (.ref u))) (h2 : Ev z tx σ H (Is (.str x))) : Ev z (tCall (spTxt2 n m) [] E (tCons te (tCons tx tNil))) σ H (Sv m) :=
  ev_call (ea_is h1 (ea_is h2 ea_nil)) fun vs H1 r e Q q => by
    subst e
    exact ⟨z, u, x, rfl, hx, r.dr, hu, fun x H' hx r' => q _ H' r' fun _ _ => ⟨x, rfl, hx⟩⟩
/-- some data with P -/
def Ds (z : Zn) (P : PyData → Prop) : VP := fun v H => ∃ d, P d ∧ DU z.U H v d
theorem ev_dat {P : PyData → Prop} {u : Addr} (hu : z.I u = some IsPur) (h1 : Ev z te σ H (Is (.ref u))) : Ev z (tCall (spDat P) [] E (tCons te tNil)) σ H (Ds z P) :=
  ev_call (ea_is h1 ea_nil) fun vs H1 r e Q q => by
    subst e
    exact ⟨z, u, rfl, r.dr, hu, fun v d H' hd r' hv => q _ H' r' fun H3 w => ⟨d, hd, hv H3 w⟩⟩
end
/-! ### data written out -/
section
variable {z : Zn} {K : PySem.W.Frag} {σ : L2.St} {H : Hp} {te tb ta : TE} {tl tr : TA}
theorem ed_k {v : V} {d : PyData} (h : ∀ H', DU z.U H' v d) : Ev z (tC v) σ H (Dd z d) := ev_c fun H' _ => h H'
theorem ed_nil : EvA z tNil σ H (fun vs H' => DUA z.U H' vs []) := ea_nil.imp fun vs H' _ e => by rw [e]; exact .nil
theorem ed_cons {d : PyData} {ds : List PyData} (h : Ev z te σ H (Dd z d)) (hr : ∀ H1, z.R H H1 → EvA z tr σ H1 (fun vs H' => DUA z.U H' vs ds)) : EvA z (tCons te tr) σ H (fun vs H' => DUA z.U H' vs (d :: ds)) :=
  (ea_cons h fun v H1 r _ => hr H1 r).imp fun vs H' _ ⟨v, r, e, h1, h2⟩ => by rw [e]; exact .cons h1 h2
theorem ed_lst {ds : List PyData} (h : EvA z tl σ H (fun vs H' => DUA z.U H' vs ds)) (hn : ds.length ≤ 100000) : Ev z (tLst tl) σ H (Dd z (.list ds)) :=
  (ev_lst h fun vs H' e => by rw [e.len]; exact hn).imp fun v H' _ ⟨p, ws, e, nu, hp, q⟩ => by rw [e]; exact .lst nu hp q
theorem ed_tup {ds : List PyData} (h : EvA z tl σ H (fun vs H' => DUA z.U H' vs ds)) (hn : ds.length ≤ 100000) : Ev z (tTup tl) σ H (Dd z (.tuple ds)) :=
  (ev_tup h fun vs H' e => by rw [e.len]; exact hn).imp fun v H' _ ⟨p, ws, e, nu, hp, q⟩ => by rw [e]; exact .tup nu hp q
theorem ed_dnew : Ev z tDNewK σ H (Dd z (.dict [])) := fun H1 e Q q => fun p hp => q _ _ (e.dr.new hp) fun H3 w => .dct (kvs := []) (ds := []) (e.dr.nu hp) (w p _ (e.dr.nu hp) upd_same) .nil
theorem ed_dict1 {k : Str} {v : V} {d : PyData} (h : ∀ H', DU z.U H' v d) : Ev z (tDisp [(tC (.str k), tC v)]) σ H (Dd z (.dict [(.str k, d)])) := fun H1 e Q q => fun p hp =>
  ⟨upd_same, [(.inr k, v)], rfl, (show 1 ≤ 15 by decide), q _ _ ((e.dr.new hp).mut hp) fun H3 w => .dct (kvs := [(.inr k, v)]) (ds := [d]) (e.dr.nu hp) (w p _ (e.dr.nu hp) upd_same) (.cons (h H3) .nil)⟩
/-- an item of a menu of data, by a draw -/
theorem ed_menu {ds : List PyData} {n : Nat} {P : PyData → Prop} (ha : EvA z tl σ H (fun vs H' => DUA z.U H' vs ds)) (hb : ∀ (x : V) H1, z.R H H1 → Ev z tb σ H1 (Nn n)) (hn : ds.length = n) (hn2 : n ≤ 100000) (hP : ∀ d ∈ ds, P d) : Ev z (tOp (rIxL K) (tLst tl) tb) σ H (Ds z P) :=
  ev_menu (Φ := fun ws H' => DUA z.U H' ws ds) (ev_lst ha fun vs H' e => by rw [e.len, hn]; exact hn2) hb fun ws H1 _ e => ⟨by rw [e.len, hn], fun w hw => by
    obtain ⟨d, hd, q⟩ := e.mem hw
    exact ⟨d, hP d hd, q⟩⟩
/-- .. of one that a name holds -/
theorem ed_menuV {ds : List PyData} {n : Nat} {P : PyData → Prop} (ha : Ev z ta σ H (Lst z fun ws H' => DUA z.U H' ws ds)) (hb : ∀ (x : V) H1, z.R H H1 → Ev z tb σ H1 (Nn n)) (hn : ds.length = n) (hP : ∀ d ∈ ds, P d) : Ev z (tOp (rIxL K) ta tb) σ H (Ds z P) :=
  ev_menu (Φ := fun ws H' => DUA z.U H' ws ds) ha hb fun ws H1 _ e => ⟨by rw [e.len, hn], fun w hw => by
    obtain ⟨d, hd, q⟩ := e.mem hw
    exact ⟨d, hP d hd, q⟩⟩
end
/-! ### tuples cut and put together -/
/-- a tuple of data with P -/
def TD (z : Zn) (P : List PyData → Prop) : VP := Tup z fun ws H' => ∃ ds, P ds ∧ DUA z.U H' ws ds
/-- texts of at most m signs, at most n of them -/
def SL (n m : Nat) (ds : List PyData) : Prop := ∃ xs : List Str, ds = xs.map PyData.str ∧ xs.length ≤ n ∧ ∀ x ∈ xs, Txs m x
section
variable {z : Zn} {K : PySem.W.Frag} {σ : L2.St} {H : Hp} {te tb ta : TE} {tl th : TO} {lo hi : Option Int}
theorem TD.imp {P P' : List PyData → Prop} (h : Ev z te σ H (TD z P)) (i : ∀ ds, P ds → P' ds) : Ev z te σ H (TD z P') := h.imp fun v H' _ ⟨p, ws, e, nu, hp, ds, hP, q⟩ => ⟨p, ws, e, nu, hp, ds, i ds hP, q⟩
theorem cutV_all {xs : List V} (h1 : HT.sIx xs.length 0 lo = 0) (h2 : HT.sIx xs.length xs.length hi = xs.length) : cutV xs lo hi = xs := by
  unfold cutV
  rw [h1, h2]
  simp
theorem ev_slT {xs : List V} (h : Ev z te σ H (Tup z fun ws _ => ws = xs)) (h1 : EvO z tl σ H (· = lo)) (h2 : EvO z th σ H (· = hi)) : Ev z (L2.tSl (rSlA K) te tl th) σ H (Tup z fun ws _ => ws = cutV xs lo hi) :=
  ev_sl h h1 h2 fun v H1 r ⟨p, ws, e, nu, hp, ew⟩ Q q => by
    subst ew
    refine ⟨p, ws, e, .inl (.inl hp), fun hc => ?_, fun _ p' hp' => ?_⟩
    · exact q _ H1 r.dr fun H3 w => ⟨p, ws, rfl, nu, w p _ nu hp, (cutV_all hc.1 hc.2).symm⟩
    · exact q _ _ (r.dr.new hp') fun H3 w => ⟨p', _, rfl, r.dr.nu hp', w p' _ (r.dr.nu hp') upd_same, rfl⟩
theorem cut_strs (xs : List Str) (lo hi : Option Int) : ∃ ys : List Str, cutV (xs.map V.str) lo hi = ys.map V.str ∧ ys.length ≤ xs.length ∧ ∀ y ∈ ys, y ∈ xs := by
  unfold cutV
  refine ⟨(xs.drop (HT.sIx (xs.map V.str).length 0 lo)).take (HT.sIx (xs.map V.str).length (xs.map V.str).length hi - HT.sIx (xs.map V.str).length 0 lo), by rw [List.map_take, List.map_drop], ?_, fun y hy => List.mem_of_mem_drop (List.mem_of_mem_take hy)⟩
  rw [List.length_take, List.length_drop]
  omega
/-- a cut of texts -/
theorem ev_slSL {xs : List Str} {n m : Nat} (h : Ev z te σ H (Tup z fun ws _ => ws = xs.map V.str)) (h1 : EvO z tl σ H (· = lo)) (h2 : EvO z th σ H (· = hi)) (hn : xs.length ≤ n) (hx : ∀ x ∈ xs, Txs m x) : Ev z (L2.tSl (rSlA K) te tl th) σ H (TD z (SL n m)) :=
  (ev_slT h h1 h2).imp fun v H' _ ⟨p, ws, e, nu, hp, ew⟩ => by
    obtain ⟨ys, e2, hl, hy⟩ := cut_strs xs lo hi
    rw [e2] at ew
    exact ⟨p, ws, e, nu, hp, _, ⟨ys, rfl, by omega, fun y h => hx y (hy y h)⟩, by rw [ew]; exact .strs ys⟩
theorem ev_catTD {P P' : List PyData → Prop} (ha : Ev z ta σ H (TD z P)) (hb : ∀ (x : V) H1, z.R H H1 → Ev z tb σ H1 (TD z P')) (hl : ∀ a b, P a → P' b → a.length + b.length ≤ 100000) : Ev z (tOp (rCatA K) ta tb) σ H (TD z fun ds => ∃ a b, ds = a ++ b ∧ P a ∧ P' b) :=
  ev_op ha (fun x H1 r _ => hb x H1 r) fun x y H1 r ⟨p, ws, e, nu, hp, ds, hP, q⟩ ⟨p', ws', e', nu', hp', ds', hP', q'⟩ Q k => by
    have l1 := q.len
    have l2 := q'.len
    have l3 := hl ds ds' hP hP'
    have cat : ∀ H3, z.W H1 H3 → ∀ p0 us, H3 p0 = some (.tup us) → ¬ z.U p0 → us = ws ++ ws' → TD z (fun ds => ∃ a b, ds = a ++ b ∧ P a ∧ P' b) (.ref p0) H3 := fun H3 w p0 us h0 n0 eu =>
      ⟨p0, us, rfl, n0, h0, ds ++ ds', ⟨ds, ds', rfl, hP, hP'⟩, by rw [eu]; exact (q.w w).app (q'.w w)⟩
    refine ⟨p, p', ws, ws', e, e', .inl (.inl hp), .inl (.inl hp'), Nat.le_trans (show ws.length + ws'.length ≤ 100000 by omega) (by decide), fun h1 => ?_, fun _ h2 => ?_, fun _ _ d hd => ?_⟩
    · exact k _ H1 r.dr fun H3 w => cat H3 w p' ws' (w p' _ nu' hp') nu' (by rw [h1]; rfl)
    · exact k _ H1 r.dr fun H3 w => cat H3 w p ws (w p _ nu hp) nu (by rw [h2, List.append_nil])
    · exact k _ _ (r.dr.new hd) fun H3 w => cat H3 ((r.dr.new hd).w.tr w) d _ (w d _ (r.dr.nu hd) upd_same) (r.dr.nu hd) rfl
/-- tuple(list), list(tuple) -/
theorem ev_tupleL {Φ : List V → Hp → Prop} (h : Ev z te σ H (Lst z Φ)) : Ev z (tCB (fun xs H Q => ∃ p ys, xs = [.ref p] ∧ ((SqL K H p ys ∧ ∀ l, H l = none → Q (.ref l) (upd H l (.tup ys))) ∨ (SqT K H p ys ∧ Q (.ref p) H))) (tCons te tNil)) σ H (Tup z Φ) := fun H1 e Q q =>
  h H1 e _ fun v H2 e2 f => by
    obtain ⟨p, ws, rfl, nu, hp, fw⟩ := Lst.at f
    exact ⟨p, ws, rfl, .inl ⟨.inl (.inl hp), fun l hl => q _ _ (e2.tr (e2.dr.new hl)) fun H3 w => ⟨l, ws, rfl, e2.dr.nu hl, w l _ (e2.dr.nu hl) upd_same, fw H3 ((e2.dr.new hl).w.tr w)⟩⟩⟩
theorem ev_listT {Φ : List V → Hp → Prop} (h : Ev z te σ H (Tup z Φ)) : Ev z (tCB (fun xs H Q => ∃ p ys, xs = [.ref p] ∧ (SqL K H p ys ∨ SqT K H p ys) ∧ ∀ l, H l = none → Q (.ref l) (upd H l (.lst ys))) (tCons te tNil)) σ H (Lst z Φ) := fun H1 e Q q =>
  h H1 e _ fun v H2 e2 f => by
    obtain ⟨p, ws, rfl, nu, hp, fw⟩ := Tup.at f
    exact ⟨p, ws, rfl, .inr (.inl (.inl hp)), fun l hl => q _ _ (e2.tr (e2.dr.new hl)) fun H3 w => ⟨l, ws, rfl, e2.dr.nu hl, w l _ (e2.dr.nu hl) upd_same, fw H3 ((e2.dr.new hl).w.tr w)⟩⟩
theorem sv_strs {n m : Nat} {v : V} {H' : Hp} (h : Tup z (fun ws H' => ws.length ≤ n ∧ ∀ (i : Nat) w, ws[i]? = some w → Sv m w H') v H') : TD z (SL n m) v H' := by
  obtain ⟨p, ws, e, nu, hp, hl, hw⟩ := h
  have un : ∀ ws : List V, (∀ (i : Nat) w, ws[i]? = some w → ∃ x, w = V.str x ∧ Txs m x) → ∃ ys : List Str, ws = ys.map V.str ∧ ys.length = ws.length ∧ ∀ y ∈ ys, Txs m y := by
    intro ws
    induction ws with
    | nil => exact fun _ => ⟨[], rfl, rfl, fun _ h => by cases h⟩
    | cons w r ih =>
      intro h
      obtain ⟨ys, e, hl, hy⟩ := ih fun i w hw => h (i + 1) w hw
      obtain ⟨x, ex, hx⟩ := h 0 w rfl
      refine ⟨x :: ys, by rw [ex, e]; rfl, by rw [List.length_cons, List.length_cons, hl], fun y hy' => ?_⟩
      rcases List.mem_cons.mp hy' with e | hy'
      · rw [e]; exact hx
      · exact hy y hy'
  obtain ⟨ys, e2, hl2, hy⟩ := un ws hw
  exact ⟨p, ws, e, nu, hp, _, ⟨ys, rfl, by omega, hy⟩, by rw [e2]; exact .strs ys⟩
end
end FB
namespace FB
open PySem PySem.Spec PyProof.Rows L2
/-! ### a new purse's zone; the end -/
section
variable {K : PySem.W.Frag} {H H1 H' : Hp} {p : Addr} {o : HO}
/-- the zone in which the purse at p may turn -/
def zu (p : Addr) : Zn := ⟨fun a => if a = p then some IsPur else none, fun a => a = p, fun a h => by
  by_cases e : a = p
  · exact e
  · rw [if_neg e] at h; exact absurd rfl h⟩
theorem zu_i : (zu p).I p = some IsPur := if_pos rfl
theorem zu_r (h : H p = some o) (q : IsPur o) : (zu p).R H H := by
  refine ⟨fun _ _ _ h => h, fun a φ e => ?_, fun a φ e => ?_, fun a e => ?_, fun a e => ?_⟩
  · by_cases ea : a = p
    · subst ea
      rw [zu_i] at e
      cases e
      exact ⟨o, h, q⟩
    · rw [show (zu p).I a = none from if_neg ea] at e; cases e
  · by_cases ea : a = p
    · subst ea
      rw [zu_i] at e
      cases e
      exact ⟨o, h, q⟩
    · rw [show (zu p).I a = none from if_neg ea] at e; cases e
  · rw [show a = p from e, h]; simp
  · rw [show a = p from e, h]; simp
/-- what a new purse's zone does leaves what stood ahead of it -/
theorem zu_z0 (r0 : z0.R H H1) (hp : H p = none) (r : (zu p).R H1 H') : z0.R H H' := (z0r (H := H)).ex fun a x e => by
  have ne : a ≠ p := fun q => by rw [q, hp] at e; cases e
  exact r.kp a x (if_neg ne) (z0g r0 a x e)
theorem sql_z0 {a : Addr} {xs : List V} (h : SqL K H a xs) (r : z0.R H H') : SqL K H' a xs := by
  rcases h with (h | ⟨o, h⟩) | h
  · exact .inl (.inl (z0g r a _ h))
  · exact .inl (.inr ⟨o, z0g r a _ h⟩)
  · exact .inr h
end
section
variable {z : Zn} {K : PySem.W.Frag} {σ : L2.St} {H : Hp} {te ta tb : TE}
theorem ev_max {i j : Int} (ha : Ev z ta σ H (Is (.int i))) (hb : Ev z tb σ H (Is (.int j))) : Ev z (tCB (fun xs H Q => ∃ i j, xs = [.int i, .int j] ∧ Q (.int (if j > i then j else i)) H) (tCons ta (tCons tb tNil))) σ H (Is (.int (if j > i then j else i))) :=
  ev_cb (ea_is ha (ea_is hb ea_nil)) fun vs H1 r e Q q => ⟨i, j, e, q _ H1 r.dr fun _ _ => rfl⟩
theorem ev_min {i j : Int} (ha : Ev z ta σ H (Is (.int i))) (hb : Ev z tb σ H (Is (.int j))) : Ev z (tCB (fun xs H Q => ∃ i j, xs = [.int i, .int j] ∧ Q (.int (if j < i then j else i)) H) (tCons ta (tCons tb tNil))) σ H (Is (.int (if j < i then j else i))) :=
  ev_cb (ea_is ha (ea_is hb ea_nil)) fun vs H1 r e Q q => ⟨i, j, e, q _ H1 r.dr fun _ _ => rfl⟩
/-- len of the script -/
theorem ev_lenQ {a : Addr} {xs : List V} (ha : Ev z ta σ H (Is (.ref a))) (h : ∀ H1, z.R H H1 → SqL K H1 a xs) : Ev z (tCB (fun xs H Q => ∃ y n, xs = [y] ∧ LenV K y H n ∧ Q (.int n) H) (tCons ta tNil)) σ H (Is (.int (xs.length : Int))) := fun H1 e Q q =>
  ha H1 e _ fun v H2 e2 f => ⟨v, xs.length, rfl, by rw [show v = .ref a from f H2 .refl]; exact Or.inl ⟨xs, h H2 (e.tr e2), rfl⟩, q _ H2 e2 fun _ _ => rfl⟩
theorem rep_dua {U : Addr → Prop} {H : Hp} {vs : List V} {ds : List PyData} : ∀ n, DUA U H vs ds → DUA U H (List.replicate n vs).flatten (List.replicate n ds).flatten
  | 0, _ => .nil
  | n + 1, h => by
    rw [List.replicate_succ, List.replicate_succ, List.flatten_cons, List.flatten_cons]
    exact h.app (rep_dua n h)
/-- t * n of data -/
theorem ed_rep {ds : List PyData} {n : Nat} (ha : Ev z ta σ H (Dd z (.tuple ds))) (hb : Ev z tb σ H (Is (.int (n : Int)))) (h0 : ds ≠ []) (h1 : 2 ≤ n) (h2 : n ≤ 1000) (h3 : ds.length ≤ 100) : Ev z (tOp (rRepT K) ta tb) σ H (Dd z (.tuple (List.replicate n ds).flatten)) :=
  ev_op ha (fun x H1 r _ => hb.up r) fun x y H1 r dx e Q q => by
    obtain ⟨a, vs, rfl, nu, hp, hd⟩ := DU.tupAt dx
    have hl := hd.len
    refine ⟨a, n, vs, rfl, e, .inl (.inl hp), fun h => h0 (by rw [h] at hl; exact List.length_eq_zero_iff.mp hl.symm), by omega, by omega, by omega, fun p hp' => q _ _ (r.dr.new hp') fun H3 w => ?_⟩
    have w3 : z.W H1 H3 := (r.dr.new hp').w.tr w
    refine .tup (r.dr.nu hp') (w p _ (r.dr.nu hp') upd_same) ?_
    show DUA z.U H3 (List.replicate ((n : Int).toNat) vs).flatten _
    rw [Int.toNat_natCast]
    exact rep_dua n (hd.w w3)
end
end FB

set_option Elab.async false
set_option linter.all false
set_option maxRecDepth 100000
set_option maxHeartbeats 4000000
/-! FB, part z: the end of a law whose def is a promise with guards. -/
namespace FB
open PySem PySem.Spec PyProof.Rows L2
section
variable {P : Program} {w : World} {K : PySem.W.Frag} {mg mb : Str → Option Value} {k : Nat} {fa a : Addr} {fd : FuncData} {x : Str} {sp : Sp} {s1 : Shared} {vs : List Value} {ns : List Int}
/-- the call at an abstract heap in which at most the script is tracked -/
theorem call_at (H : Hp) (KX : K.In s1.heap) (hns : s1.heap.Ns mainGlobals mg) (hb : s1.heap.Ns builtinsNs mb) (hbb : ∀ y : Str, y ≠ "__name__" → mb y = bootBuiltins y) (hlim : s1.heap.NoLimit) (hgs : s1.gens = #[])
    (ha : s1.heap.get? a = some { cls := .type "list", data := .seq vs.toArray }) (hr : Room k callerA) (F : ∀ base : Heap, K.In base → base.Ns mainGlobals mg → FnG P w K mg base CX0 k fa fd [x] sp)
    (hbind : ∀ (s : Shared) (u : Value), BindsTo s fd ⟨[u], []⟩ [(x, u)]) (hO : Only H) (hok : HOk P w H s1.heap) (hA : ∀ b, H b ≠ none → b = a) (hK : H a ≠ none → K.lookup a = none) (hsp : sp [.ref a] H (fun v _ => v = .bl true) fun _ _ _ => False) :
    codeAny (model P w) callerA (.call (.ref fa) ⟨[.ref a], []⟩) (fun r s' => r = .ok (.ret (.bool true)) ∧ OldK s1.heap s'.heap ∧ s'.os = s1.os ∧ AllBare s'.gens) s1 := by
  have only_a : ∀ {b : Addr} {u : HO}, H b = some u → b = a := fun {b u} e => hA b (by rw [e]; simp)
  have ns_free : ∀ {b : Addr} {m : Str → Option Value}, s1.heap.Ns b m → (hidT s1.heap H).Ns b m := by
    rintro b m ⟨o, es, ep, e, d, r⟩
    refine ⟨o, es, ep, hidT_get e ?_, d, r⟩
    cases q : H b with
    | none => rfl
    | some u =>
      rw [only_a q, ha] at e
      cases e
      exact absurd (show Data.seq vs.toArray _ = Data.dict es ep from d) (fun z => by cases z)
  have hKb : K.In (hidT s1.heap H) := by
    intro b o e
    refine hidT_get (KX b o e) ?_
    cases q : H b with
    | none => rfl
    | some u =>
      have e2 := only_a q
      rw [e2] at e q
      rw [hK (by rw [q]; simp)] at e
      cases e
  have hM : Mod K mg (hidT s1.heap H) := ⟨hKb, ns_free hns, ⟨mb, ns_free hb, hbb⟩, (let ⟨mc, h1, h2⟩ := hlim; ⟨mc, ns_free h1, h2⟩)⟩
  have env : Env0 P w K mg (hidT s1.heap H) callerA [] s1 H := ⟨rfl, hM, fun b o e => of_hidT e, Nat.le_of_eq (hidT_size _ _), trivial, fun b h => (by cases h), hok, .of_eq hgs⟩
  have main := (F _ hKb (ns_free hns)).go callerA [] s1 H ⟨[.ref a], []⟩ [.ref a] [.ref a] (fun v _ => v = .bl true) (fun _ _ _ => False) rfl hr env (hbind s1 (.ref a)) (.cons rfl .nil) hsp
  refine codeAny_mono main ?_
  intro r s' h
  match r, h with
  | .error e, h => exact False.elim h
  | .ok .next, h => exact False.elim h
  | .ok .brk, h => exact False.elim h
  | .ok .cont, h => exact False.elim h
  | .ok (.ret u), h =>
    obtain ⟨v, H', os, bare, un, hok', r', q⟩ := h
    have ev : v = .bl true := q
    rw [ev] at r'
    have eu : u = Value.bool true := r'
    refine ⟨by rw [eu], OldK.of_keep fun b o e => ?_, os, bare⟩
    cases q : H b with
    | none => exact un.keep b o e q (fun z => by cases z) (fun z => by cases z)
    | some u =>
      rcases hO b with z | ⟨ob, xs, z⟩
      · rw [q] at z; cases z
      · obtain ⟨e1, _⟩ := hok b _ z
        obtain ⟨e2, _⟩ := hok' b _ (un.frzs b ob _ z)
        rw [e] at e1
        cases e1
        exact e2
theorem call_end (KX : K.In s1.heap) (hns : s1.heap.Ns mainGlobals mg) (hb : s1.heap.Ns builtinsNs mb) (hbb : ∀ y : Str, y ≠ "__name__" → mb y = bootBuiltins y) (hlim : s1.heap.NoLimit) (hgs : s1.gens = #[])
    (ha : s1.heap.get? a = some { cls := .type "list", data := .seq vs.toArray }) (hi : IntsAre vs ns) (hl : ns.length ≤ sizeLine) (hr : Room k callerA) (F : ∀ base : Heap, K.In base → base.Ns mainGlobals mg → FnG P w K mg base CX0 k fa fd [x] sp)
    (hbind : ∀ (s : Shared) (u : Value), BindsTo s fd ⟨[u], []⟩ [(x, u)]) (hsp : ∀ H : Hp, Only H → SqL K H a (ns.map V.int) → sp [.ref a] H (fun v _ => v = .bl true) fun _ _ _ => False) :
    codeAny (model P w) callerA (.call (.ref fa) ⟨[.ref a], []⟩) (fun r s' => r = .ok (.ret (.bool true)) ∧ OldK s1.heap s'.heap ∧ s'.os = s1.os ∧ AllBare s'.gens) s1 := by
  have rv := vals_ints hi
  cases hk : K.lookup a with
  | some o =>
    have e := KX a o hk
    rw [ha] at e
    cases e
    have hS : SqL K (fun _ => none) a (ns.map V.int) := .inr ⟨_, vs.toArray, _, hk, rfl, rfl, rfl, (by rw [List.size_toArray, hi.length]; exact hl), (by simpa using rv)⟩
    exact call_at (fun _ => none) KX hns hb hbb hlim hgs ha hr F hbind (fun _ => .inl rfl) (fun b u z => by cases (show (none : Option HO) = some u from z)) (fun b z => absurd rfl z) (fun z => absurd rfl z) (hsp _ (fun _ => .inl rfl) hS)
  | none =>
    let ob : Obj := { cls := .type "list", data := .seq vs.toArray }
    let H : Hp := fun b => if b = a then some (.frz ob (.lst (ns.map V.int))) else none
    have at_a : H a = some (.frz ob (.lst (ns.map V.int))) := if_pos rfl
    have off : ∀ b, b ≠ a → H b = none := fun b n => if_neg n
    have hO : Only H := fun b => by
      by_cases e : b = a
      · exact .inr ⟨ob, _, by rw [e]; exact at_a⟩
      · exact .inl (off b e)
    refine call_at H KX hns hb hbb hlim hgs ha hr F hbind hO (fun b u z => ?_) (fun b z => Classical.byContradiction fun n => z (off b n)) (fun _ => hk) (hsp H hO (.inl (.inr ⟨ob, at_a⟩)))
    by_cases e : b = a
    · subst e
      rw [at_a] at z
      cases z
      exact ⟨ha, by rw [List.length_map]; exact hl, vs, _, rv, ha⟩
    · rw [off b e] at z; cases z
end
/-- what k_head leaves, from such a promise of the law's def -/
theorem walk_g {l : PySem.W.OpenLaw} {n k : Nat} {q : Program} {loose : List Str} {XP : (Str → Option Value) → Heap → Prop} {YP : World → Heap → Prop} {d : DefRec} {K : Params → PySem.W.Frag} {sp : World → Sp} {x : Str} (hn : l.most = some n) (hn2 : n ≤ sizeLine) (hdf : d.params.defaults = [])
    (hr : Room k callerA) (hY : ∀ (w : World) (h : Heap), YP w h → (K w.params).In h)
    (F : ∀ (w : World) (mg : Str → Option Value) (fa : Addr) (h : Heap), (K w.params).In h → h.Ns mainGlobals mg → mg d.name = some (.ref fa) → ∃ fd : FuncData, (∀ (s : Shared) (u : Value), BindsTo s fd ⟨[u], []⟩ [(x, u)]) ∧
        ∀ base : Heap, (K w.params).In base → base.Ns mainGlobals mg → FnG l.prog w (K w.params) mg base CX0 k fa fd [x] (sp w))
    (hsp : ∀ (w : World) (H : Hp) (a : Addr) (ns : List Int), ns.length ≤ n → Only H → SqL (K w.params) H a (ns.map V.int) → sp w [.ref a] H (fun v _ => v = .bl true) fun _ _ _ => False) :
    PySem.W.WalkO q loose XP YP l.row.toRowW d [] (fun f vs => PySem.call f vs) := by
  refine Att.attach_call hn hdf ?_
  intro w s0 s1 mg mb fa o pm cd doc a vs ns G Y _ _ _ hmg hobj hints hlen hg
  have KX := hY w _ Y
  obtain ⟨fd, hb, hF⟩ := F w mg fa _ KX G.T.g hmg
  exact call_end KX G.T.g G.T.b G.T.builtins G.T.nolimit hg hobj hints (Nat.le_trans hlen hn2) hr hF hb fun H hO hS => hsp w H a ns hlen hO hS
end FB

set_option Elab.async false
set_option linter.all false
set_option maxRecDepth 100000
set_option maxHeartbeats 4000000
/-! FB, part s: sorted(set(xs)) of texts. -/
namespace FB
open PySem PySem.Spec PyProof.Rows L2

def kyS (e : Int × Value) : Str := match e.2 with
  | .str k _ => k
  | _ => Str.empty
def OkS (w : World) (e : Int × Value) : Prop := ∃ k tk, e.2 = Value.str k tk ∧ e.1 = hashStr w k
/-- at a the set of the texts of L -/
def SetW (w : World) (h : Heap) (a : Addr) (L : List Str) : Prop :=
  ∃ ob xs ep t, h.get? a = some ob ∧ ob.ExactSet ∧ ob.data = .set xs ep t ∧ (∀ e ∈ xs.toList, OkS w e) ∧ (xs.toList.map kyS).Nodup ∧ (∀ k, k ∈ L ↔ k ∈ xs.toList.map kyS) ∧
    xs.size ≤ L.length ∧ t.fits xs.size = true ∧ Ris t.place.toList ∧ (w.params.followText "set-order" = true ∨ t.led = true)
section
variable {P : Program} {w : World} {A : Around} {E : Value → Shared → Prop} {s : Shared} {a : Addr} {L : List Str}
theorem SetW.keep {h h' : Heap} (R : SetW w h a L) (k : ∀ o, h.get? a = some o → h'.get? a = some o) : SetW w h' a L := by
  obtain ⟨ob, xs, ep, t, ho, r⟩ := R
  exact ⟨ob, xs, ep, t, k ob ho, r⟩
theorem okS_is {e : Int × Value} (g : OkS w e) (k : Str) : (PySem.strKind P w).is k e.2 = true ↔ kyS e = k := by
  obtain ⟨k0, tk, h1, _⟩ := g
  unfold kyS
  rw [h1]
  constructor
  · intro q
    exact (PySem.strKind P w).inj _ _ _ (strKind_is P w k0 tk) q
  · intro q
    exact q ▸ strKind_is P w k0 tk
theorem okS_elems {l : List (Int × Value)} (g : ∀ e ∈ l, OkS w e) : ElemsOf (PySem.strKind P w) l := by
  intro e he
  obtain ⟨k, tk, h1, h2⟩ := g e he
  exact ⟨⟨k, by rw [h1]; exact strKind_is P w k tk, h2⟩, by rw [h1] <;> rfl⟩
theorem okS_mem {l : List (Int × Value)} (g : ∀ e ∈ l, OkS w e) (k : Str) : k ∈ l.map kyS ↔ ∃ e ∈ l, (PySem.strKind P w).is k e.2 = true := by
  rw [List.mem_map]
  exact ⟨fun ⟨e, he, q⟩ => ⟨e, he, (okS_is (g e he) k).2 q⟩, fun ⟨e, he, q⟩ => ⟨e, he, (okS_is (g e he) k).1 q⟩⟩

theorem setW_tail {g : Bool → Sem Unit} (hg : ∀ (b : Bool) (u : Shared) (Z : Unit → Shared → Prop), Z () u → wpAny (model P w) A (g b) Z E u) {ob : Obj} {xs ys : Array (Int × Value)} {ep : Nat} {t u : SetTable}
    (ho : s.heap.get? a = some ob) (hex : ob.ExactSet) (hd : ob.data = .set xs ep t) {M : List Str} (gy : ∀ e ∈ ys.toList, OkS w e) (ny : (ys.toList.map kyS).Nodup) (my : ∀ k, k ∈ M ↔ k ∈ ys.toList.map kyS)
    (hM : M.length < scanBound) (hl : ys.size ≤ M.length) (hf : u.fits ys.size = true) (hr : Ris u.place.toList) (led : w.params.followText "set-order" = true ∨ u.led = true) {wd : Bool} {R : Option Bool → Shared → Prop}
    (hR : ∀ h', Heap.SameBut a s.heap h' → SetW w h' a M → R (some true) { s with heap := h' }) :
    wpAny (model P w) A (do
        storeSet a ys u
        if (!wd && u.tooFull) = true then do
            g (relayAll u ys (SetTable.grown ys.size)).2.2
            storeSet a (relayAll u ys (SetTable.grown ys.size)).1 (relayAll u ys (SetTable.grown ys.size)).2.1
            pure (some true)
          else pure (some true)) R E s := by
  have hy : ys.size < scanBound := Nat.lt_of_le_of_lt hl hM
  refine wpAny_bind (wpAny_storeSet_of ho hd ?_ (fits_of_scanBound hy))
  have o1 := store_at (es' := ys) (t' := u) ho hd
  have c1 := Heap.SameBut.update s.heap a (Obj.putSet ys u)
  by_cases hc : (!wd && u.tooFull) = true
  · rw [if_pos hc]
    have q1 := relayAll_perm u ys (SetTable.grown ys.size)
    have q2 := relayAll_fits u ys (SetTable.grown ys.size)
    have q3 := relayAll_ris u ys (SetTable.grown ys.size)
    have q4 := relayAll_led u ys (SetTable.grown ys.size)
    generalize relayAll u ys (SetTable.grown ys.size) = Z at q1 q2 q3 q4 ⊢
    obtain ⟨zs, v, gave⟩ := Z
    dsimp only at q1 q2 q3 q4 ⊢
    have z1 : zs.size = ys.size := by rw [← Array.length_toList, q1.length_eq, Array.length_toList]
    refine wpAny_bind (hg _ _ _ (wpAny_bind (wpAny_storeSet_of o1 rfl ?_ (fits_of_scanBound (by rw [z1]; exact hy)))))
    have o2 := store_at (es' := zs) (t' := v) o1 rfl
    refine wpAny_pure (hR _ (c1.trans (Heap.SameBut.update _ a _)) ?_)
    exact ⟨_, zs, _, v, o2, hex, rfl, fun e he => gy e (q1.mem_iff.mp he), (q1.map kyS).nodup_iff.mpr ny, fun k => (my k).trans (q1.map kyS).mem_iff.symm, by rw [z1]; exact hl, q2, q3, led.imp id fun z => by rw [q4]; exact z⟩
  · rw [if_neg hc]
    exact wpAny_pure (hR _ c1 ⟨_, ys, _, u, o1, hex, rfl, gy, ny, my, hl, hf, hr, led⟩)

theorem setW_add {k : Str} {tk : Tok} {Q : Bool → Shared → Prop} (R : SetW w s.heap a L) (room : L.length + 1 < scanBound)
    (hQ : ∀ b h', Heap.SameBut a s.heap h' → SetW w h' a (L ++ [k]) → Q b { s with heap := h' }) :
    wpAny (model P w) A (setAddHashed a (.str k tk) (hashStr w k)) Q E s := by
  obtain ⟨ob, xs, ep, t, ho, hex, hd, g, nd, hm, hl, hf, hr, hled⟩ := R
  have kk : (PySem.strKind P w).is k (.str k tk) = true := strKind_is P w k tk
  have sc : (Value.str k tk).scannable = true := rfl
  have el : ElemsOf (PySem.strKind P w) xs.toList := okS_elems g
  have hb : xs.size < scanBound := by omega
  have hlen : (L ++ [k]).length = L.length + 1 := by simp
  unfold setAddHashed setAddHashedIn
  refine wpAny_holding (wpAny_bind (wpAny_setState_of ho hd hf ?_))
  dsimp only
  rw [byScan_of sc hb el]
  simp only [↓reduceIte]
  unfold setAddByScan
  refine wpAny_bind ?_
  refine wpAny_bind (wpAny_rule (wpAny_bind (wpAny_setScan_of kk ho hd hf el ?_)))
  cases fi : List.findIdx? (fun e => (PySem.strKind P w).is k e.2) xs.toList with
  | some j =>
    dsimp only
    obtain ⟨hj, pj, _⟩ := List.findIdx?_eq_some_iff_getElem.mp fi
    have kin : k ∈ xs.toList.map kyS := (okS_mem (P := P) g k).2 ⟨xs.toList[j], List.getElem_mem hj, pj⟩
    refine wpAny_pure (wpAny_pure (hQ false s.heap (Heap.SameBut.refl a s.heap) ⟨ob, xs, ep, t, ho, hex, hd, g, nd, fun i => ?_, by rw [hlen]; omega, hf, hr, hled⟩))
    rw [List.mem_append, List.mem_singleton, hm i]
    exact ⟨fun z => z.elim id (fun e => e ▸ kin), .inl⟩
  | none =>
    dsimp only
    have kout : k ∉ xs.toList.map kyS := fun z => by
      obtain ⟨e, he, q⟩ := (okS_mem (P := P) g k).1 z
      have c := List.findIdx?_eq_none_iff.mp fi e he
      rw [q] at c
      cases c
    have gw : ∀ (b : Bool) {u : Shared} {Z : Unit → Shared → Prop}, Z () u → wpAny (model P w) A (match b with | true => rule "set.scan.the-table-gave-way" | false => pure ()) Z E u :=
      fun b u Z q => by cases b <;> first | exact wpAny_pure q | exact wpAny_rule q
    have q0 := layNew_perm t xs (hashStr w k) (.str k tk)
    have q1 := layNew_fits t xs (hashStr w k) (.str k tk)
    have q2 := layNew_ris t xs (hashStr w k) (.str k tk) hr
    have q3 := layNew_led t xs (hashStr w k) (.str k tk)
    generalize layNew t xs (hashStr w k) (.str k tk) = Z at q0 q1 q2 q3 ⊢
    obtain ⟨ys, u, wd, gave⟩ := Z
    dsimp only at q0 q1 q2 q3 ⊢
    rw [Array.toList_push] at q0
    have pc : ys.toList.Perm ((hashStr w k, Value.str k tk) :: xs.toList) := q0.trans (List.perm_append_singleton _ _)
    have pk : (ys.toList.map kyS).Perm (k :: xs.toList.map kyS) := pc.map kyS
    have gy : ∀ e ∈ ys.toList, OkS w e := fun e he => by
      rcases List.mem_cons.mp (pc.mem_iff.mp he) with z | z
      · rw [z]; exact ⟨k, tk, rfl, rfl⟩
      · exact g e z
    have ny : (ys.toList.map kyS).Nodup := pk.nodup_iff.mpr (List.nodup_cons.mpr ⟨kout, nd⟩)
    have my : ∀ i, i ∈ L ++ [k] ↔ i ∈ ys.toList.map kyS := fun i => by
      rw [pk.mem_iff, List.mem_cons, List.mem_append, List.mem_singleton, hm i]
      exact Or.comm
    have hsz : ys.size = xs.size + 1 := by rw [← Array.length_toList, pc.length_eq, List.length_cons, Array.length_toList]
    have hbM : (L ++ [k]).length < scanBound := by rw [hlen]; exact room
    have hlM : ys.size ≤ (L ++ [k]).length := by rw [hlen, hsz]; omega
    have ld : w.params.followText "set-order" = true ∨ u.led = true := hled.imp id fun z => by rw [q3]; exact z
    refine wpAny_bind (gw _ ?_)
    split
    · refine wpAny_bind ?_
      rw [hashByValue_scannable 8 sc]
      refine wpAny_pure ?_
      refine setW_tail (M := L ++ [k]) ?_ ho hex hd gy ny my hbM hlM ?_ ?_ ?_ ?_
      · intro b s₁ Q' q; cases b <;> first | exact wpAny_pure q | exact wpAny_rule q
      · first | (split <;> first | exact q1 | exact SetTable.fits_plain_off q1) | exact q1
      · first | (split <;> exact q2) | exact q2
      · first | (split <;> exact ld) | exact ld
      · intro h' sb r; dsimp only; exact wpAny_pure (hQ true h' sb r)
    · refine wpAny_bind (wpAny_pure ?_)
      simp only [↓reduceIte]
      refine setW_tail (M := L ++ [k]) ?_ ho hex hd gy ny my hbM hlM q1 q2 ld ?_
      · intro b s₁ Q' q; cases b <;> first | exact wpAny_pure q | exact wpAny_rule q
      · intro h' sb r; dsimp only; exact wpAny_pure (hQ true h' sb r)

theorem setW_loop {I : Addr} {fp wr : List Addr} {G : Array GenState → Array GenState → Prop} {n : Nat} {Pv : Nat → Value → Prop} {St : Nat → Shared → Prop} {R : Result → Shared → Prop}
    (W : WalksS P w A.in1 I fp wr G n Pv St) (S : Addr) (nf : S ∉ fp) (ks : List Str) (hn : n = ks.length) (hb : ks.length + 1 < scanBound) (hval : ∀ i v, Pv i v → ∃ k t, ks[i]? = some k ∧ v = .str k t) :
    ∀ (d i : Nat) (s : Shared), n - i = d → i ≤ n → St i s → SetW w s.heap S (ks.take i) →
      (∀ s', Moved (S :: wr) G s s' → SetW w s'.heap S ks → R (.ok (.ret .none)) s') → codeAny (model P w) A (.builtin "set.update.loop" ⟨[.ref S, .ref I], []⟩) R s := by
  have nw : S ∉ wr := fun h => nf (W.sub _ h)
  have up : ∀ b ∈ wr, b ∈ S :: wr := fun b hb => List.mem_cons_of_mem _ hb
  intro d
  induction d with
  | zero =>
    intro i s hd hi st hS hR
    have e : i = n := by omega
    subst e
    refine codeAny_builtin F.entry_set_update_loop ?_
    rw [Around.under_plainId F.plain_set_update_loop _]
    refine wpAny_bind (m := pyNext (.ref I)) (W.done s _ _ st fun s' hm => ?_)
    have e2 : ks.take i = ks := List.take_of_length_le (by omega)
    rw [e2] at hS
    exact wpAny_pure (hR s' (hm.mono up) (hS.keep fun o e => hm.heap S o nw e))
  | succ d ih =>
    intro i s hd hi st hS hR
    have lt : i < n := by omega
    refine codeAny_builtin F.entry_set_update_loop ?_
    rw [Around.under_plainId F.plain_set_update_loop _]
    refine wpAny_bind (m := pyNext (.ref I)) (W.item i s _ _ lt st fun v s' hP st' hm => ?_)
    obtain ⟨z, t, hz, rfl⟩ := hval i v hP
    have hS' : SetW w s'.heap S (ks.take i) := hS.keep fun o e => hm.heap S o nw e
    show wpAny _ A.in1 (holding [Value.str z t] (setAdd S (.str z t)) >>= _) _ _ s'
    refine wpAny_bind (wpAny_holding ?_)
    unfold setAdd
    refine wpAny_holding (wpAny_bind ((PySem.strKind P w).pyHash (k := z) (strKind_is _ _ _ _) ?_))
    refine setW_add (s := { s' with toks := s'.toks + 1 }) hS' (by rw [List.length_take]; omega) fun b h' sb hS2 => ?_
    have hS3 : SetW w h' S (ks.take (i + 1)) := by
      rw [List.take_add_one, hz]
      exact hS2
    refine wpAny_pure ⟨plainId_quiet F.plain_set_update_loop _, ih (i + 1) _ (by omega) lt (W.frame _ s' _ _ st' (Nat.le_succ _) fun c hc o e => ?_) hS3 fun s'' hm2 hS4 => ?_⟩
    · exact (sb.2 c (fun h : c = S => nf (by rw [← h]; exact hc))).trans e
    · refine hR s'' (Moved.trans W.gtrans ((hm.mono up).then_heap (Nat.le_succ _) fun c o hc e => ?_) hm2) hS4
      exact (sb.2 c (fun h : c = S => hc (by rw [h]; exact List.mem_cons_self))).trans e

/-- the object of a new set -/
def newSet (w : World) : Obj := { cls := .type "set", dict := none, data := .set #[] 0 (.fresh 0 0 (!w.params.followText "set-order")) }
theorem setW_new {h : Heap} (w : World) {b : Addr} (ho : h.get? b = some (newSet w)) : SetW w h b [] :=
  ⟨_, #[], 0, _, ho, ⟨rfl, rfl, rfl⟩, rfl, (fun e he => by simp at he), (by simp), (fun k => by simp), (by simp), (by rfl), List.Pairwise.nil, by
    show _ ∨ (!w.params.followText "set-order") = true
    cases w.params.followText "set-order"
    · exact .inr rfl
    · exact .inl rfl⟩

theorem strs_val {items : Array Value} {ks : List Str} (hit : StrsAre items.toList ks) : items.size = ks.length ∧ ∀ (i : Nat) (v : Value), items[i]? = some v → ∃ k t, ks[i]? = some k ∧ v = .str k t := by
  have e : items.size = ks.length := by
    have q := SS.strs_at hit
    have q2 := StrsAre.length hit
    rw [Array.length_toList] at q2
    exact q2
  refine ⟨e, fun i v hv => ?_⟩
  have hi : i < ks.length := by rw [← e]; exact (Array.getElem?_eq_some_iff.mp hv).1
  obtain ⟨t, q⟩ := SS.strs_at hit i v (by rw [Array.getElem?_toList]; exact hv)
  exact ⟨ks[i], t, List.getElem?_eq_getElem hi, by rw [q, List.getD_eq_getElem?_getD, List.getElem?_eq_getElem hi] <;> rfl⟩

end
end FB

set_option Elab.async false
set_option linter.all false
set_option maxRecDepth 100000
set_option maxHeartbeats 4000000
/-! FB, part t: set(xs) of a tuple or list of texts. -/
namespace FB
open PySem PySem.Spec PyProof.Rows L2
section
variable {P : Program} {w : World} {A : Around} {E : Value → Shared → Prop} {s : Shared}
set_option maxRecDepth 100000 in
set_option maxHeartbeats 3200000 in
theorem setW_call {l : Addr} {items : Array Value} (ks : List Str) {Q : Value → Shared → Prop} (hh : A.handled = none) (hl : s.heap.IsTuple l items ∨ s.heap.IsList l items) (hit : StrsAre items.toList ks) (hb : ks.length + 1 < scanBound)
    (h : ∀ (h' : Heap) (tk : Nat), SetW w h' s.heap.objs.size ks → (∀ b o, s.heap.get? b = some o → h'.get? b = some o) → Q (.ref s.heap.objs.size) { s with heap := h', toks := tk }) :
    wpAny (model P w) A (call (.type "set") [.ref l]) Q E s := by
  obtain ⟨hisz, hval⟩ := strs_val hit
  obtain ⟨c, tl, hmro⟩ := F.called_set.mro
  have m1 := F.called_set.made
  have m2 := F.called_set.sub
  refine wpAny_call (codeAny_of_tree ?_)
  show wpAny _ _ (callAny (.type "set") _) _ _ _
  refine wpAny_pure ⟨Code.quiet_builtin _ (by decide +kernel), codeAny_builtin F.entry_type_call ?_⟩
  rw [Around.under_plain (weight_type_call_type "set" [.ref l] []) rfl]
  have m3 := F.called_set.notType
  have m4 := F.called_set.canCreate
  have m5 := F.typeCall_set_1 (.ref l)
  repeat (any_goals (first | assumption | wp_step))

  refine codeAny_mono (code_set_led1 (.ref l) (E := E) (Q₁ := fun obj s₁ => obj = .ref s.heap.objs.size ∧ s₁ = { s with heap := s.heap.push (newSet w) }) ⟨rfl, rfl⟩) fun r s₁ hr => ?_
  cases r with
  | error e => exact hr
  | ok fl =>
    cases fl with
    | ret obj =>
      obtain ⟨rfl, rfl⟩ := hr
      have hS : (s.heap.push (newSet w)).get? s.heap.objs.size = some (newSet w) := Heap.get?_push_size _ rfl
      have hT : Shared.TypeIs { s with heap := s.heap.push (newSet w) } (.ref s.heap.objs.size) "set" := ⟨_, hS, rfl⟩
      have m6 := F.called_set.init.lookup
      have m7 := F.called_set.init.bind (.ref s.heap.objs.size)
      repeat (any_goals (first | assumption | wp_step))

      refine codeAny_mono (codeAny_call_builtin (R := wants (fun r s₂ => r = .none ∧ ∃ h' tk, s₂ = { s with heap := h', toks := tk } ∧ SetW w h' s.heap.objs.size ks ∧
          (∀ b o, s.heap.get? b = some o → h'.get? b = some o)) E) F.called_set.init.plain F.entry_set_init (check_set_init_1 hT ?_)) fun r₂ s₂ hr₂ => ?_
      · have fin : ∀ (it : Obj) (s' : Shared), Moved (s.heap.objs.size :: [(s.heap.push (newSet w)).objs.size]) (fun a b => b = a) { s with heap := (s.heap.push (newSet w)).push it } s' → SetW w s'.heap s.heap.objs.size ks →
            ∃ h' tk, s' = { s with heap := h', toks := tk } ∧ SetW w h' s.heap.objs.size ks ∧ (∀ b o, s.heap.get? b = some o → h'.get? b = some o) := by
          intro it s' hm hS'
          obtain ⟨h', g2, d', tk', os'⟩ := s'
          have eg : g2 = s.gens := hm.gens
          have ed : d' = s.drawn := hm.drawn
          have eo : os' = s.os := hm.os
          subst eg; subst ed; subst eo
          refine ⟨h', tk', rfl, hS', fun b o e => ?_⟩
          have b0 : b < s.heap.objs.size := Heap.lt_size e
          have b1 : b ≠ s.heap.objs.size := Nat.ne_of_lt b0
          have b2 : b ≠ (s.heap.push (newSet w)).objs.size := by
            rw [Heap.size_push]; exact Nat.ne_of_lt (Nat.lt_succ_of_lt b0)
          exact hm.heap b o (by simp only [List.mem_cons, List.mem_singleton, List.not_mem_nil, or_false, not_or]; exact ⟨b1, b2⟩) (Heap.get?_push_of_some _ (Heap.get?_push_of_some _ e))
        have hh3 : A.in1.in1.in1.handled = none := by simp [hh]
        rcases hl with hl | hl
        · obtain ⟨ol, hol, hcl, nl, hdl⟩ := hl
          obtain ⟨ocls, odict, odata, oslots⟩ := ol
          simp only at hcl hdl
          subst hcl; subst hdl
          have hol' : (s.heap.push (newSet w)).get? l = some { cls := .type "tuple", dict := odict, data := .seq items nl, slots := oslots } := Heap.get?_push_of_some _ hol
          have m8 := F.sub_tuple_set
          have m9 := F.sub_tuple_frozenset
          have hne : (Value.type "tuple" == Value.type "dict") = false := by decide
          have hl1 : (s.heap.push (newSet w)).IsTuple l items := ⟨_, hol', rfl, nl, rfl⟩
          unfold Builtin.«set.__init__» noKeywords Builtin.Frozenset.updateFrom
          generalize hPI : pyIter = PI
          wp_walk
          subst hPI
          refine wpAny_pyIter_tuple hl1 ?_
          refine wpAny_bind (wpAny_runValue ?_)
          have hlS : l < s.heap.objs.size := Heap.lt_size hol
          have hneI : l ≠ (s.heap.push (newSet w)).objs.size := by
            rw [Heap.size_push]; exact Nat.ne_of_lt (Nat.lt_succ_of_lt hlS)
          have nf : s.heap.objs.size ∉ [(s.heap.push (newSet w)).objs.size, l] := by
            rw [Heap.size_push]; simp only [List.mem_cons, List.mem_singleton, List.not_mem_nil, or_false, not_or]
            exact ⟨Nat.ne_of_lt (Nat.lt_succ_self _), Nat.ne_of_gt hlS⟩
          refine setW_loop ((Walks.tuple hh3 _ l hneI items).toS) s.heap.objs.size nf ks hisz hb hval (items.size - 0) 0 _ (by omega) (Nat.zero_le _)
            ⟨⟨_, Heap.get?_push_size _ rfl, rfl, rfl⟩, (hl1.push _)⟩ (setW_new w (Heap.get?_push_of_some _ hS)) fun s' hm hS' => ?_
          obtain ⟨h', tk, e, r⟩ := fin _ s' hm hS'
          show wpAny _ _ _ _ _ _
          refine wpAny_pure ?_
          show wpAny _ _ (ret Value.none) _ _ _
          exact wpAny_pure ⟨rfl, h', tk, e, r⟩
        · obtain ⟨ol, hol, hcl, nl, hdl⟩ := hl
          obtain ⟨ocls, odict, odata, oslots⟩ := ol
          simp only at hcl hdl
          subst hcl; subst hdl
          have hol' : (s.heap.push (newSet w)).get? l = some { cls := .type "list", dict := odict, data := .seq items nl, slots := oslots } := Heap.get?_push_of_some _ hol
          have m8 := F.sub_list_set
          have m9 := F.sub_list_frozenset
          have hne : (Value.type "list" == Value.type "dict") = false := by decide
          have hl1 : (s.heap.push (newSet w)).IsList l items := ⟨_, hol', rfl, nl, rfl⟩
          unfold Builtin.«set.__init__» noKeywords Builtin.Frozenset.updateFrom
          generalize hPI : pyIter = PI
          wp_walk
          subst hPI
          refine wpAny_pyIter_list hl1 ?_
          refine wpAny_bind (wpAny_runValue ?_)
          have hlS : l < s.heap.objs.size := Heap.lt_size hol
          have hneI : l ≠ (s.heap.push (newSet w)).objs.size := by
            rw [Heap.size_push]; exact Nat.ne_of_lt (Nat.lt_succ_of_lt hlS)
          have nf : s.heap.objs.size ∉ [(s.heap.push (newSet w)).objs.size, l] := by
            rw [Heap.size_push]; simp only [List.mem_cons, List.mem_singleton, List.not_mem_nil, or_false, not_or]
            exact ⟨Nat.ne_of_lt (Nat.lt_succ_self _), Nat.ne_of_gt hlS⟩
          refine setW_loop ((Walks.list hh3 _ l hneI items).toS) s.heap.objs.size nf ks hisz hb hval (items.size - 0) 0 _ (by omega) (Nat.zero_le _)
            ⟨⟨_, Heap.get?_push_size _ rfl, rfl, rfl⟩, (hl1.push _)⟩ (setW_new w (Heap.get?_push_of_some _ hS)) fun s' hm hS' => ?_
          obtain ⟨h', tk, e, r⟩ := fin _ s' hm hS'
          show wpAny _ _ _ _ _ _
          refine wpAny_pure ?_
          show wpAny _ _ (ret Value.none) _ _ _
          exact wpAny_pure ⟨rfl, h', tk, e, r⟩
      · cases r₂ with
        | error e => exact hr₂
        | ok fl₂ =>
          cases fl₂ with
          | ret r =>
            obtain ⟨rfl, h', tk, rfl, hS', hk'⟩ := hr₂
            repeat (any_goals (first | assumption | wp_step))
            exact h _ _ hS' hk'
          | _ => exact hr₂.elim
    | _ => exact hr.elim
end
end FB

set_option Elab.async false
set_option linter.all false
set_option maxRecDepth 100000
set_option maxHeartbeats 4000000
/-! FB, part u: sorted(set(xs)) of a tuple or list of texts. -/
namespace FB
open PySem PySem.Spec PyProof.Rows L2
section
variable {P : Program} {w : World} {A : Around} {E : Value → Shared → Prop} {s : Shared} {a : Addr} {L : List Str}
theorem strs_of : ∀ (l : List Value), (∀ v ∈ l, ∃ k tk, v = Value.str k tk) → StrsAre l (l.map PyProof.Rows.strOf) := fun l h => strsAre_map l h
theorem setW_sorted {Q : Value → Shared → Prop} (R : SetW w s.heap a L) (hh : A.handled = none) (h64 : L.length < 64)
    (hQ : ∀ s' p (out : Array Value) (c : Nat) (ks : List Str), (∀ b o, s.heap.get? b = some o → s'.heap.get? b = some o) → s'.gens = s.gens → s'.os = s.os → s.heap.objs.size ≤ p → s'.heap.get? p = some (seqObj "list" out c) →
      StrsAre out.toList ks → sortedS ks = true → ks.Nodup → (∀ k, k ∈ ks ↔ k ∈ L) → ks.length ≤ L.length → Q (.ref p) s') : wpAny (model P w) A (call (.builtin "sorted") [.ref a]) Q E s := by
  obtain ⟨ob, xs, ep, t, ho, hex, hd, g, nd, hm, hl, hf, hr, hled⟩ := R
  have hb : xs.size < scanBound := by unfold scanBound; omega
  refine Calls.call_function_entry kind_sorted plain_sorted entry_sorted (args_sorted1 _) ?_
  unfold Builtin.«sorted»
  refine wpAny_bind (m := checkCount "sorted" 1 1 _) (wpAny_pure (wpAny_bind (collect_set (A := A.in1) hh ⟨ob, ho, hex.1, hd⟩ hf hb hr hled fun s1 vs k1 hz g1 o1 pm => ?_)))
  have hvl : vs.length = xs.size := by rw [pm.length_eq, List.length_map, Array.length_toList]
  have st : ∀ v ∈ vs, ∃ k tk, v = Value.str k tk := fun v hv => by
    obtain ⟨e, he, q⟩ := List.mem_map.mp (pm.mem_iff.mp hv)
    obtain ⟨k, tk, h1, _⟩ := g e he
    exact ⟨k, tk, by rw [← q]; exact h1⟩
  have hI : StrsAre vs (vs.map PyProof.Rows.strOf) := strs_of vs st
  have pk : (vs.map PyProof.Rows.strOf).Perm (xs.toList.map kyS) := by
    have q := pm.map PyProof.Rows.strOf
    rw [List.map_map] at q
    have e : xs.toList.map (PyProof.Rows.strOf ∘ fun x => x.2) = xs.toList.map kyS := List.map_congr_left fun e he => by
      obtain ⟨k, tk, h1, _⟩ := g e he
      show PyProof.Rows.strOf e.2 = kyS e
      unfold kyS
      rw [h1]
      rfl
    rw [← e]
    exact q
  refine wpAny_bind (wpAny_newList ?_ (by rw [hvl, sizeLine_eq]; omega))
  have hoL : (s1.heap.push (seqObj "list" vs.toArray 0)).get? s1.heap.objs.size = some (seqObj "list" vs.toArray 0) := Heap.get?_push_size _ rfl
  refine wpAny_bind (wpAny_holding (wpAny_call_entry slot_list_sort ⟨_, hoL, rfl⟩ entry_list_sort (list_sort_treeK strKind_oneLt hoL hI.keysOf (fun v₁ v₂ rest e => keyKind_strs (by rw [← e]; exact hI)) (by rw [hvl]; omega) fun st' a1 a2 => ⟨_, rfl, ?_⟩) (args_list_sort _)))
  obtain ⟨ks, b1, b2, b3⟩ := sorted_out_str hI a1 a2
  obtain ⟨c, hc⟩ := sortedHeap_at (vs := vs) (out := (arrOf st').map (·.2)) hoL
  have pn : ks.Perm (xs.toList.map kyS) := b2.trans pk
  refine wpAny_pure ⟨_, rfl, hQ _ s1.heap.objs.size _ c ks (fun b u e => ?_) g1 o1 hz hc b1 b3 (pn.nodup_iff.mpr nd) (fun k => by rw [pn.mem_iff, hm k]) ?_⟩
  · have q := k1 b u e
    have lt := Heap.lt_size q
    exact (sortedHeap_old (Nat.ne_of_lt lt) (by rw [size_push']; exact Nat.lt_succ_of_lt lt)).trans (Heap.get?_push_of_some _ q)
  · rw [pn.length_eq, List.length_map, Array.length_toList]; exact hl
end

section
variable {X : Cx}
/-- sorted(set(xs)): the texts of xs, each once, growing -/
def tSortSet (K : PySem.W.Frag) (ta : TE) : TE := fun σ H Q => ta σ H fun x H1 => ∃ l, ∃ xs : List Str, x = .ref l ∧ (SqL K H1 l (xs.map V.str) ∨ SqT K H1 l (xs.map V.str)) ∧ xs.length < 64 ∧
  ∀ (ks : List Str) (p : Addr), sortedS ks = true → ks.Nodup → (∀ k, k ∈ ks ↔ k ∈ xs) → ks.length ≤ xs.length → H1 p = none → Q (.ref p) (upd H1 p (.lst (ks.map V.str)))
theorem pe_sortSet {K : PySem.W.Frag} {a : Expr} {ta : TE} {p p2 q pos : Pos} (hc : X.calm = true) (hg : Gl X "sorted") (hm : X.mg "sorted" = none) (hg2 : Gl X "set") (hm2 : X.mg "set" = none) (ha : PE X a ta)
    (na : starEach [a] X.env = (false, eval a X.env) :: starEach [] X.env := by rfl) (hK : X.K = K := by rfl) : PE X (.Call (.Name "sorted" p) [.Call (.Name "set" p2) [a] [] q] [] pos) (tSortSet K ta) := by
  subst hK
  refine ⟨fun pins s σ H Q I h => ?_⟩
  refine Call_ (ld_blt (u := .builtin "sorted") I hg hm (by decide +kernel) (PyProof.Rows.callWith_builtin1 (PyProof.Rows.args_cons ?_ rfl) rfl rfl))
  refine Call_ (ld_blt I hg2 hm2 boot_set ?_)
  refine PyProof.Rows.callWith_type1 (PyProof.Rows.args_cons (thn (ha.run pins s σ H _ I h) fun v s1 ⟨x, H1, I1, r1, q1⟩ => PyProof.Rows.args_nil ?_) na) na rfl
  obtain ⟨l, xs, rfl, hq, h64, q1⟩ := q1
  cases r1
  have hb : xs.length + 1 < scanBound := by unfold scanBound; omega
  have fin : ∀ (h' : Heap) (tk : Nat), SetW X.w h' s1.heap.objs.size xs → (∀ b o, s1.heap.get? b = some o → h'.get? b = some o) →
      wpAny (model X.prog X.w) X.A (spliced (backTo pos (starEach [] X.env))) (fun vs s₂ => wpAny (model X.prog X.w) X.A (call (.builtin "sorted") (Value.ref s1.heap.objs.size :: vs)) (EP X pins σ Q) X.xe s₂) X.xe { s1 with heap := h', toks := tk } := fun h' tk hS hk => by
    refine PyProof.Rows.args_nil ?_
    have I2 : Inv X pins σ H1 { s1 with heap := h', toks := tk } := I1.kept fun b o e => hk b o e
    generalize hs2 : ({ s1 with heap := h', toks := tk } : Shared) = s2 at I2 ⊢
    have hS2 : SetW X.w s2.heap s1.heap.objs.size xs := by rw [← hs2]; exact hS
    refine setW_sorted hS2 (I2.ok.hd hc) h64 fun s' p out c ks k g o hp hg hi hs hn hm hle => ?_
    have hlen : (ks.map V.str).length ≤ sizeLine := by rw [List.length_map, sizeLine_eq]; omega
    have hnp : H1 p = none := I2.hok.fresh hp
    have J : Inv X pins σ (upd H1 p (.lst (ks.map V.str))) { s2 with heap := s'.heap, gens := s'.gens, drawn := s'.drawn, toks := s'.toks } :=
      I2.call (ch := []) (Un.laid k hp hnp) (I2.hok.laid k hp ⟨hlen, out.toList, c, vals_of_strs hi, hg⟩) (by rw [g]; exact I2.bare) (fun _ z => nomatch z)
    have e : s' = { s2 with heap := s'.heap, gens := s'.gens, drawn := s'.drawn, toks := s'.toks } := by
      cases s'
      cases s2
      cases o
      rfl
    rw [e]
    exact ⟨.ref p, _, J, rfl, q1 ks p hs hn hm hle hnp⟩
  rcases hq with hq | hq
  · obtain ⟨its, r, pl, hz⟩ := I1.list hq
    exact setW_call xs (I1.ok.hd hc) (.inr pl.isList) (by simpa using strsAre_of r) hb fun h' tk hS hk => fin h' tk hS hk
  · obtain ⟨its, r, pl, hz⟩ := I1.tuple hq
    exact setW_call xs (I1.ok.hd hc) (.inl pl) (by simpa using strsAre_of r) hb fun h' tk hS hk => fin h' tk hS hk
end
end FB

set_option Elab.async false
set_option linter.all false
set_option maxRecDepth 100000
set_option maxHeartbeats 4000000
/-! FB, part v: t[::-1], t[:k:-1]. -/
namespace FB
open PySem PySem.Spec PyProof.Rows L2 HT
/-- how many items t[:hi:-1] has -/
def rvN (n : Nat) : Option Int → Nat
  | none => n
  | some j => n - 1 - j.toNat
theorem rvN_le (n : Nat) (hi : Option Int) : rvN n hi ≤ n := by
  cases hi with
  | none => exact Nat.le_refl _
  | some j => show n - 1 - j.toNat ≤ n; omega
def revV {α : Type} (xs : List α) (hi : Option Int) : List α := (xs.drop (xs.length - rvN xs.length hi)).reverse
theorem rv_places (n : Nat) (hi : Option Int) (h0 : ∀ j, hi = some j → 0 ≤ j) : ∃ e, Builtin.Slice.sliceAdjust none hi (-1) (n : Int) = ((n : Int) - 1, e) ∧ Builtin.Slice.slicePlaces ((n : Int) - 1) e (-1) = rvN n hi := by
  have hm : ((-1 : Int) < 0) := by decide
  have hp : ¬ ((-1 : Int) > 0) := by decide
  cases hi with
  | none =>
    refine ⟨-1, rfl, ?_⟩
    unfold Builtin.Slice.slicePlaces
    rw [if_neg hp]
    show (if (n : Int) - 1 > -1 then ((n : Int) - 1 - -1 - 1) / (- -1) + 1 else 0).toNat = n
    rw [show (- -1 : Int) = 1 by decide, Int.ediv_one]
    split <;> omega
  | some j =>
    have hj := h0 j rfl
    have hn : ¬ (j < 0) := by omega
    refine ⟨min j ((n : Int) - 1), ?_, ?_⟩
    · unfold Builtin.Slice.sliceAdjust
      simp only [hm, if_true, hn, if_false]
    · unfold Builtin.Slice.slicePlaces
      rw [if_neg hp]
      show (if (n : Int) - 1 > min j ((n : Int) - 1) then ((n : Int) - 1 - min j ((n : Int) - 1) - 1) / (- -1) + 1 else 0).toNat = n - 1 - j.toNat
      rw [show (- -1 : Int) = 1 by decide, Int.ediv_one]
      split <;> omega
theorem fm_congr {α β : Type} {f g : α → Option β} : ∀ {l : List α}, (∀ x ∈ l, f x = g x) → l.filterMap f = l.filterMap g
  | [], _ => rfl
  | x :: l, h => by
    rw [List.filterMap_cons, List.filterMap_cons, h x List.mem_cons_self, fm_congr fun y hy => h y (List.mem_cons_of_mem _ hy)]
theorem rv_pick (xs : Array Value) (k : Nat) (hk : k ≤ xs.size) : ((List.range k).filterMap fun (m : Nat) => xs[(((xs.size : Int) - 1) + (m : Int) * (-1)).toNat]?).toArray = (xs.toList.drop (xs.size - k)).reverse.toArray := by
  congr 1
  have e : (List.range k).map (fun m => xs.size - 1 - m) = ((List.range k).map (fun m => (xs.size - k) + m)).reverse := by
    apply List.ext_getElem
    · simp
    · intro i h1 h2
      rw [List.length_map, List.length_range] at h1
      rw [List.getElem_reverse]
      simp only [List.getElem_map, List.getElem_range, List.length_map, List.length_range]
      omega
  have e2 : ((List.range k).filterMap fun (m : Nat) => xs[(((xs.size : Int) - 1) + (m : Int) * (-1)).toNat]?) = ((List.range k).map (fun m => xs.size - 1 - m)).filterMap (xs[·]?) := by
    rw [List.filterMap_map]
    refine fm_congr fun m hm => ?_
    have := List.mem_range.mp hm
    show xs[_]? = xs[xs.size - 1 - m]?
    congr 1
    omega
  rw [e2, e, List.filterMap_reverse, PySem.pick_run, List.take_of_length_le (by rw [List.length_drop, Array.length_toList]; omega)]
section
variable {prog : Program} {w : World} {A : Around} {E : Value → Shared → Prop} {s : Shared}
theorem rv_applied {sl : Addr} {vl vu vs : Value} {hi : Option Int} {n : Nat} {Q : Int × Int × Nat → Shared → Prop} (hs : s.heap.IsSliceOf sl vl vu vs) (pl : IsPart vl none) (pu : IsPart vu hi) (ps : IsPart vs (some (-1))) (h0 : ∀ j, hi = some j → 0 ≤ j)
    (h : Q ((n : Int) - 1, -1, rvN n hi) s) : wpAny (model prog w) A (Builtin.Slice.sliceApplied (.ref sl) (pure (n : Int))) Q E s := by
  obtain ⟨os, hos, hcs, hds⟩ := id hs
  unfold Builtin.Slice.sliceApplied Builtin.Slice.sliceFields
  refine wpAny_bind (wpAny_bind (wpAny_field hos hds (x := vl) rfl (wpAny_bind (wpAny_field hos hds (x := vu) rfl (wpAny_bind (wpAny_field hos hds (x := vs) rfl (wpAny_pure ?_)))))))
  refine wpAny_bind (slicePart_ ps ?_)
  show wpAny _ _ (if ((-1 : Int) == 0) = true then _ else _) _ _ s
  rw [if_neg (by decide)]
  refine wpAny_bind (slicePart_ pl (wpAny_bind (slicePart_ pu (wpAny_bind (wpAny_pure ?_)))))
  obtain ⟨e, h1, h2⟩ := rv_places n hi h0
  show wpAny _ _ (match Builtin.Slice.sliceAdjust none hi (-1) (n : Int) with | (a, b) => pure (a, (-1 : Int), Builtin.Slice.slicePlaces a b (-1))) _ _ s
  rw [h1]
  show wpAny _ _ (pure ((n : Int) - 1, (-1 : Int), Builtin.Slice.slicePlaces ((n : Int) - 1) e (-1))) _ _ s
  rw [h2]
  exact wpAny_pure h
theorem rv_item {t sl : Addr} {items : Array Value} {vl vu vs : Value} {hi : Option Int} {Q : Value → Shared → Prop} (ht : IsTup s.heap t items) (hs : s.heap.IsSliceOf sl vl vu vs) (pl : IsPart vl none) (pu : IsPart vu hi) (ps : IsPart vs (some (-1)))
    (h0 : ∀ j, hi = some j → 0 ≤ j) (h : Q (.ref s.heap.objs.size) { s with heap := s.heap.push { cls := .type "tuple", data := .seq (items.toList.drop (items.size - rvN items.size hi)).reverse.toArray } })
    (hsz : items.size ≤ sizeLine) : wpAny (model prog w) A (getItem (.ref t) (.ref sl)) Q E s := by
  have fits : sizeOk (.seq (items.toList.drop (items.size - rvN items.size hi)).reverse.toArray) := by
    show (items.toList.drop (items.size - rvN items.size hi)).reverse.toArray.size ≤ sizeLine
    rw [List.size_toArray, List.length_reverse, List.length_drop, Array.length_toList]
    omega
  obtain ⟨os, hos, hcs, hds⟩ := id hs
  have hTs : s.TypeIs (.ref sl) "slice" := ⟨os, hos, hcs⟩
  unfold getItem
  try with_reducible refine wpAny_holding ?_
  first | refine wpAny_bind (wpAny_pure ?_) | skip
  refine wpAny_bind (wpAny_sequenceKey ht.typeIs (by decide) ?_)
  refine wpAny_bind (wpAny_callSpecial?_slot (name := Str.ofString "__getitem__") ht.typeIs slot_tuple_getitem (wpAny_call_entry slot_tuple_getitem ht.typeIs entry_tuple_getitem ?_ (args_tuple_getitem _ _)))
  show wpAny _ _ (Builtin.Tuple.tupleItemsOf (.ref t) >>= _) _ _ s
  refine wpAny_bind (tupleItemsOf_ ht (wpAny_bind (wpAny_typeOf hTs ?_)))
  rw [if_pos (by decide)]
  refine wpAny_bind (rv_applied hs pl pu ps h0 ?_)
  have hno : ¬ ((((items.size : Int) - 1 == 0) && ((-1 : Int) == 1) && (rvN items.size hi == items.size)) = true) := by
    intro q
    rw [Bool.and_eq_true, Bool.and_eq_true] at q
    exact absurd q.1.2 (by decide)
  show wpAny _ _ (if (((items.size : Int) - 1 == 0) && ((-1 : Int) == 1) && (rvN items.size hi == items.size)) = true then _ else _) _ _ s
  rw [if_neg hno, rv_pick items _ (rvN_le _ _)]
  first
    | exact wpAny_bind (m := Builtin.Tuple.tupleExact _) (wpAny_newObj_type (wpAny_pure ⟨_, rfl, wpAny_pure h⟩) fits)
    | exact wpAny_bind (m := Builtin.Tuple.tupleExact _) (wpAny_newObj_type (wpAny_bind (wpAny_pure (wpAny_pure ⟨_, rfl, wpAny_pure h⟩))) fits)
    | exact wpAny_bind (wpAny_bind (m := Builtin.Tuple.tupleExact _) (wpAny_newObj_type (wpAny_pure (wpAny_pure ⟨_, rfl, wpAny_pure h⟩)) fits))
    | exact wpAny_bind (wpAny_bind (m := Builtin.Tuple.tupleExact _) (wpAny_newObj_type (wpAny_pure ⟨_, rfl, wpAny_pure h⟩) fits))
end
/-- t[:hi:-1] -/
def tRevT (K : PySem.W.Frag) (te : TE) (th : TO) : TE := fun σ H Q => te σ H fun x H1 => th σ H1 fun hi H2 => ∃ a xs, x = .ref a ∧ SqT K H2 a xs ∧ (∀ j, hi = some j → 0 ≤ j) ∧ ∀ p, H2 p = none → Q (.ref p) (upd H2 p (.tup (revV xs hi)))
section
variable {X : Cx}
theorem pe_revT {K : PySem.W.Frag} {e : Expr} {te : TE} {hi : Option Expr} {th : TO} {k : Nat} {p1 p2 p3 pos : Pos} (he : PE X e te) (hh : PO X hi th) (hK : X.K = K := by rfl) : PE X (.Subscript e (.Slice none hi (some (.UnaryOp .USub (.Constant (.int 1) k p1) p2)) p3) pos) (tRevT K te th) := by
  subst hK
  refine ⟨fun pins s σ H Q I h => ?_⟩
  refine Subscript_ (thn (he.run pins s σ H _ I h) fun v s1 ⟨x, H1, I1, r1, q1⟩ => ?_)
  have hst : PO X (some (.UnaryOp .USub (.Constant (.int 1) k p1) p2)) (tPart (tUn (rU fun i => .int (-i)) (tC (.int 1)))) := po_some (pe_un un_neg pe_int)
  refine wpAny_Slice (thn (po_none.run pins s1 σ H1 (fun o H2 => o = none ∧ H2 = H1) I1 ⟨rfl, rfl⟩) fun vl s2 ⟨l, H2, I2, pl, el, e2⟩ => ?_)
  subst el e2
  refine thn (hh.run pins s2 σ H2 _ I2 q1) fun vu s3 ⟨u, H3, I3, pu, q2⟩ => ?_
  refine thn (hst.run pins s3 σ H3 (fun o H4 => o = some (-1) ∧ H4 = H3) I3 ⟨1, rfl, -1, rfl, rfl, rfl⟩) fun vs s4 ⟨o, H4, I4, ps, eo, e4⟩ => ?_
  subst eo e4
  obtain ⟨a, xs, ex, hx, h0, q⟩ := q2
  subst ex
  cases r1
  have I5 : Inv X pins σ H4 { s4 with heap := s4.heap.push { cls := .type "slice", data := .fields #[vl, vu, vs] } } := I4.kept (t' := s4.toks) fun b ob q => Heap.get?_push_of_some _ q
  obtain ⟨its, r, ht, hz⟩ := I5.tuple hx
  have hlen := r.length
  show wpAny (model X.prog X.w) X.A (subscriptTail e (.Slice none hi (some (.UnaryOp .USub (.Constant (.int 1) k p1) p2)) p3) (.ref a) (.ref s4.heap.objs.size)) (EP X pins σ Q) X.xe { s4 with heap := s4.heap.push { cls := .type "slice", data := .fields #[vl, vu, vs] } }
  refine tail_any (ops := [.ref a, .ref s4.heap.objs.size]) ht.typeIs slot_tuple_getitem.lookup ?_ (by with_unfolding_all rfl)
  refine rv_item ht (Heap.IsSliceOf.new _ vl vu vs) pl pu ps h0 ?_ (by rw [List.size_toArray]; omega)
  refine ⟨.ref _, _, I5.laid (t' := s4.toks) (o := .tup (revV xs u)) (fun b ob q => Heap.get?_push_of_some _ q) (Nat.le_refl _) ?_, rfl, q _ (I5.hok.fresh (Nat.le_refl _))⟩
  refine ⟨?_, (its.drop (its.toArray.size - rvN its.toArray.size u)).reverse, ?_, ⟨_, Heap.get?_push_size _ rfl, rfl, 0, rfl⟩⟩
  · unfold revV
    rw [List.length_reverse, List.length_drop]
    omega
  · unfold revV
    rw [List.size_toArray, ← hlen]
    exact (r.drop _).reverse
end
end FB

set_option Elab.async false
set_option linter.all false
set_option maxRecDepth 100000
set_option maxHeartbeats 4000000
/-! FB, part w: zips of two, pairs unpacked, growing texts. -/
namespace FB
open PySem PySem.Spec PyProof.Rows L2 RZ
section
variable {X : Cx} {K : PySem.W.Frag} {tg l : Expr} {ta : TA}
theorem k_piz (hl : PI X tg l (iZipA X.K ta)) (h : X.K = K := by rfl) : PI X tg l (iZipA K ta) := h ▸ hl
theorem k_pgt {es : List Expr} {k : Nat} {t : TGs} {n : Nat} {pos : Pos} (h : PGs X es t) (hc : X.calm = true := by rfl) (hn : (assignEach es X.env).length = n := by rfl) (hst : (assignEach es X.env).findIdx? (·.1) = none := by rfl) (hK : X.K = K := by rfl) :
    PG X (.Tuple es k pos) (gTup K n t) := hK ▸ pg_tup hc h hn hst
end
/-- a list, a tuple (t) -/
def sq (t : Bool) (xs : List V) : HO := if t then .tup xs else .lst xs
section
variable {z : Zn} {K : PySem.W.Frag} {σ : L2.St} {H : Hp} {te : TE} {ta : TA}
/-- [elt for x, y in zip(a, b)] -/
theorem ev_lcZ {t : Bool} {xs ys : List V} {j k : Nat} {vs : List Nat} {φ : Nat → VP} (h : EvA z ta σ H fun us H' => ∃ a b, us = [.ref a, .ref b] ∧ ¬ z.U a ∧ ¬ z.U b ∧ H' a = some (sq t xs) ∧ H' b = some (sq t ys)) (hl : ys.length ≤ xs.length) (hn : ys.length ≤ 100000)
    (hv : ∀ x y, wipe (((wipe σ vs).set j (some x)).set k (some y)) vs = wipe σ vs)
    (hb : ∀ i x y D H1, xs[i]? = some x → ys[i]? = some y → H D = none → z.R H H1 → (z.add D).R H1 H1 → Ev (z.add D) te (((wipe σ vs).set j (some x)).set k (some y)) H1 (φ i)) :
    Ev z (tLc (iZipA K ta) (gTup K 2 (gCons (gName j) (gCons (gName k) gNil))) tYes te vs) σ H (Lst z fun ws H' => ws.length = ys.length ∧ ∀ i w, ws[i]? = some w → φ i w H') := fun H1 e Q q => by
  refine h H1 e _ fun us H2 e2 f => ?_
  obtain ⟨a, b, rfl, na, nb, _, _⟩ := f H2 .refl
  have st : ∀ H', z.W H2 H' → H' a = some (sq t xs) ∧ H' b = some (sq t ys) := fun H' w => by
    obtain ⟨a', b', e', _, _, ha, hb⟩ := f H' w
    cases e'
    exact ⟨ha, hb⟩
  obtain ⟨J, hJ, hgo, hstop, hyld⟩ : ∃ J : It, (∀ R' : It → Hp → Prop, R' J H2 → ∃ a' b' xs' ys', ([V.ref a, V.ref b] : List V) = [.ref a', .ref b'] ∧ ((SqL K H2 a' xs' ∧ SqL K H2 b' ys' ∧ R' (Itz K a' b') H2) ∨ (SqT K H2 a' xs' ∧ SqT K H2 b' ys' ∧ R' (ItzT K a' b') H2))) ∧
      (∀ i H', z.W H2 H' → i < ys.length → J.go i H') ∧ (∀ H', z.W H2 H' → J.stop ys.length H') ∧
      (∀ i H' v H'', z.W H2 H' → i < ys.length → J.yld i H' v H'' → ∃ T x y, v = .ref T ∧ H' T = none ∧ H'' = upd H' T (.tup [x, y]) ∧ xs[i]? = some x ∧ ys[i]? = some y) := by
    cases t with
    | false =>
      have k1 : ∀ H', z.W H2 H' → SqL K H' a xs := fun H' w => .inl (.inl (st H' w).1)
      have k2 : ∀ H', z.W H2 H' → SqL K H' b ys := fun H' w => .inl (.inl (st H' w).2)
      refine ⟨Itz K a b, fun R' r => ⟨a, b, xs, ys, rfl, .inl ⟨k1 H2 .refl, k2 H2 .refl, r⟩⟩, fun i H' w hi => ⟨xs, ys, xs[i]'(by omega), ys[i], k1 H' w, k2 H' w, List.getElem?_eq_getElem _, List.getElem?_eq_getElem hi⟩, fun H' w => ⟨xs, ys, k1 H' w, k2 H' w, .inr (Nat.le_refl _)⟩, fun i H' v H'' w hi y => ?_⟩
      obtain ⟨T, x, y', e1, e2, e3, e4, e5⟩ := y
      exact ⟨T, x, y', e1, e2, e3, e4 xs (k1 H' w), e5 ys (k2 H' w)⟩
    | true =>
      have k1 : ∀ H', z.W H2 H' → SqT K H' a xs := fun H' w => .inl (.inl (st H' w).1)
      have k2 : ∀ H', z.W H2 H' → SqT K H' b ys := fun H' w => .inl (.inl (st H' w).2)
      refine ⟨ItzT K a b, fun R' r => ⟨a, b, xs, ys, rfl, .inr ⟨k1 H2 .refl, k2 H2 .refl, r⟩⟩, fun i H' w hi => ⟨xs, ys, xs[i]'(by omega), ys[i], k1 H' w, k2 H' w, List.getElem?_eq_getElem _, List.getElem?_eq_getElem hi⟩, fun H' w => ⟨xs, ys, k1 H' w, k2 H' w, .inr (Nat.le_refl _)⟩, fun i H' v H'' w hi y => ?_⟩
      obtain ⟨T, x, y', e1, e2, e3, e4, e5⟩ := y
      exact ⟨T, x, y', e1, e2, e3, e4 xs (k1 H' w), e5 ys (k2 H' w)⟩
  refine hJ (fun J H1 => tLc (fun _ _ R => R J H1) (gTup K 2 (gCons (gName j) (gCons (gName k) gNil))) tYes te vs σ H Q) fun D hD => ?_
  have hD0 : H D = none := (e.tr e2).back hD
  have nU : ¬ z.U D := e2.dr.nu hD
  have nI : z.I D = none := e2.dr.ni hD
  refine ⟨fun i m H' => i + m = ys.length ∧ z.R H2 H' ∧ ∃ acc : List V, H' D = some (.lst acc) ∧ acc.length = i ∧ ∀ k w, acc[k]? = some w → ∀ H3, (z.add D).W H' H3 → φ k w H3,
    ⟨ys.length, by omega, e2.dr.new hD, [], upd_same, rfl, fun k w h => by simp at h⟩, fun i m H' hW => ?_⟩
  obtain ⟨em, r, acc, hacc, hla, hφ⟩ := hW
  have w2 : z.W H2 H' := r.w
  by_cases hi : i < ys.length
  · right
    refine ⟨hgo i H' w2 hi, fun H'' => z.R H2 H'' ∧ ∃ acc : List V, H'' D = some (.lst acc) ∧ acc.length = i + 1 ∧ ∀ k w, acc[k]? = some w → ∀ H3, (z.add D).W H'' H3 → φ k w H3,
      fun H'' h => ⟨m - 1, by omega, by omega, h⟩, fun v H'' hy => ?_⟩
    obtain ⟨T, x, y, rfl, hT, rfl, hx, hy⟩ := hyld i H' v H'' w2 hi hy
    have TD : T ≠ D := fun q => by rw [q, hacc] at hT; cases hT
    have rT : z.R H2 (upd H' T (.tup [x, y])) := r.tr (r.dr.new hT)
    have hTD : upd H' T (HO.tup [x, y]) D = some (.lst acc) := by rw [upd_ne (Ne.symm TD)]; exact hacc
    refine ⟨T, [x, y], rfl, .inl (.inl upd_same), rfl, x, [y], rfl, y, [], rfl, rfl, hv x y, ?_⟩
    have rD : (z.add D).R (upd H' T (HO.tup [x, y])) (upd H' T (HO.tup [x, y])) := rT.dr.up (by rw [hTD]; simp) (by rw [hTD]; simp)
    refine hb i x y D _ hx hy hD0 ((e.tr e2).tr rT) rD _ rD _ fun u H4 e4 fy => ?_
    have h4D : H4 D = some (.lst acc) := e4.kp D _ nI hTD
    refine ⟨acc, h4D, Nat.lt_of_le_of_lt (show acc.length ≤ 100000 by omega) (by decide), (rT.tr e4.dn).mut hD, acc ++ [u], upd_same, by rw [List.length_append, hla]; rfl, fun k w hk H3 w3 => ?_⟩
    have w45 : (z.add D).W H4 (upd H4 D (.lst (acc ++ [u]))) := fun a o na ha => by
      rw [upd_ne fun ea => na (Or.inr ea)]
      exact ha
    have wT : (z.add D).W H' (upd H' T (HO.tup [x, y])) := fun a o na ha => by
      rw [upd_ne fun ea => by rw [ea, hT] at ha; cases ha]
      exact ha
    by_cases hk2 : k < acc.length
    · rw [List.getElem?_append_left hk2] at hk
      exact hφ k w hk H3 (((wT.tr e4.w).tr w45).tr w3)
    · have ek : k = acc.length := by
        have h5 := (List.getElem?_eq_some_iff.mp hk).1
        rw [List.length_append, List.length_cons, List.length_nil] at h5
        omega
      subst ek
      rw [List.getElem?_append_right (Nat.le_refl _), Nat.sub_self] at hk
      have ey : u = w := Option.some.inj hk
      subst ey
      rw [hla]
      exact fy H3 (w45.tr w3)
  · left
    have ei : i = ys.length := by omega
    subst ei
    exact ⟨hstop H' w2, q _ H' (e2.tr r) fun H3 w3 => ⟨D, acc, rfl, nU, w3 D _ nU hacc, hla, fun k w hk => hφ k w hk H3 w3.dn⟩⟩

/-- x, y = a pair -/
theorem q_pair {tu : TS} {D : Ends} {i j : Nat} {Φ : V → V → Hp → Prop} (hR : z.R H H) (h : Ev z te σ H (Tup z fun ws H' => ∃ v w, ws = [v, w] ∧ Φ v w H')) (k : ∀ v w H1, z.R H H1 → (∀ H2, z.W H1 H2 → Φ v w H2) → tu D ((σ.set i (some v)).set j (some w)) H1) :
    tSeq (tAsg te (gTup K 2 (gCons (gName i) (gCons (gName j) gNil)))) tu D σ H := h H hR _ fun v H1 e f => by
  obtain ⟨p, ws, rfl, nu, hp, v, w, rfl, _⟩ := f H1 .refl
  refine ⟨p, [v, w], rfl, .inl (.inl hp), rfl, v, [w], rfl, w, [], rfl, rfl, k v w H1 e fun H2 w2 => ?_⟩
  obtain ⟨p', ws', e', _, hp', v', w', ew, q⟩ := f H2 w2
  cases e'
  rw [w2 p _ nu hp] at hp'
  cases hp'
  cases ew
  exact q
/-- t[i] of a tuple that stands -/
theorem ev_ixT {tb : TE} {p : Addr} {xs : List V} {i : Nat} {v : V} {φ : VP} (ha : Ev z te σ H (Is (.ref p))) (hb : Ev z tb σ H (Is (.int (i : Int)))) (hp : ∀ H1, z.R H H1 → SqT K H1 p xs) (hv : xs[i]? = some v) (hφ : ∀ H', z.W H H' → φ v H') : Ev z (tOp (rIxT K) te tb) σ H φ :=
  ev_op2 ha hb fun H1 r => rn_val r.dr (fun Q q => ⟨p, xs, i, v, rfl, rfl, hp H1 r, atI_nat hv, q⟩) fun H' w => hφ H' (r.w.tr w)
/-- x in a tuple, a list that stands -/
theorem ev_in {tb : TE} {p : Addr} {xs : List V} {x : V} (ha : Ev z te σ H (Is x)) (hb : Ev z tb σ H (Is (.ref p))) (hp : ∀ H1, z.R H H1 → SqL K H1 p xs ∨ SqT K H1 p xs) (fx : flatV x = true) (fs : xs.all flatV = true) : Ev z (tOp (rIn K false) te tb) σ H (Is (.bl (inV x xs))) :=
  ev_op2 ha hb fun H1 r => rn_val r.dr (fun Q q => ⟨p, xs, rfl, hp H1 r, fx, fs, q⟩) fun _ _ => rfl
theorem ev_inL {tb : TE} {xs : List V} {x : V} (ha : Ev z te σ H (Is x)) (hb : Ev z tb σ H (Lst z fun ws _ => ws = xs)) (fx : flatV x = true) (fs : xs.all flatV = true) : Ev z (tOp (rIn K false) te tb) σ H (Is (.bl (inV x xs))) :=
  ev_op ha (fun _ H1 r _ => hb.up r) fun x' y H1 r e ⟨p, ws, e2, nu, hp, ew⟩ => by
    subst ew
    subst e2
    cases e
    exact rn_val r.dr (fun Q q => ⟨p, _, rfl, .inl (.inl (.inl hp)), fx, fs, q⟩) fun _ _ => rfl
/-- xs.append(v) -/
theorem ev_ltS {tb : TE} {x y : Str} (ha : Ev z te σ H (Is (.str x))) (hb : Ev z tb σ H (Is (.str y))) :
    Ev z (tOp (fun x y H Q => ∃ i j, x = .str i ∧ y = .str j ∧ Q (.bl (decide (i.cps.toList < j.cps.toList))) H) te tb) σ H (Is (.bl (decide (x.cps.toList < y.cps.toList)))) :=
  ev_op2 ha hb fun H1 r => rn_val r.dr (fun Q q => ⟨x, y, rfl, rfl, q⟩) fun _ _ => rfl
end
/-! ### growing texts -/
def ltS (x y : Str) : Bool := decide (x.cps.toList < y.cps.toList)
def grS : List Str → Bool
  | [] => true
  | x :: r => (match r with | [] => true | y :: _ => ltS x y) && grS r
theorem ltS_trans {x y w : Str} (h1 : ltS x y = true) (h2 : ltS y w = true) : ltS x w = true := by
  unfold ltS at *
  exact decide_eq_true (List.lt_trans (of_decide_eq_true h1) (of_decide_eq_true h2))
theorem ltS_irr (x : Str) : ltS x x = false := decide_eq_false (List.lt_irrefl _)
theorem grS_pw : ∀ {l : List Str}, grS l = true → l.Pairwise (fun a b => ltS a b = true)
  | [], _ => List.Pairwise.nil
  | [x], _ => List.pairwise_singleton _ _
  | x :: y :: r, h => by
    have h' : ltS x y = true ∧ grS (y :: r) = true := by simpa [grS] using h
    have p := grS_pw h'.2
    refine List.pairwise_cons.mpr ⟨fun w hw => ?_, p⟩
    rcases List.mem_cons.mp hw with e | hw
    · rw [e]; exact h'.1
    · exact ltS_trans h'.1 ((List.pairwise_cons.mp p).1 w hw)
theorem pw_grS : ∀ {l : List Str}, l.Pairwise (fun a b => ltS a b = true) → grS l = true
  | [], _ => rfl
  | [x], _ => rfl
  | x :: y :: r, h => by
    obtain ⟨h1, h2⟩ := List.pairwise_cons.mp h
    show (ltS x y && grS (y :: r)) = true
    rw [h1 y List.mem_cons_self, pw_grS h2]
    rfl
theorem rising_pw : ∀ {p : Str} {l : List Str}, risingS p l = true → (p :: l).Pairwise (fun a b => ltS b a = false)
  | p, [], _ => List.pairwise_singleton _ _
  | p, x :: r, h => by
    have h' : ltCps x.cps.toList p.cps.toList = false ∧ risingS x r = true := by simpa [risingS] using h
    have q := rising_pw h'.2
    have h1 : ltS x p = false := by unfold ltS; rw [← ltCps_eq]; exact h'.1
    refine List.pairwise_cons.mpr ⟨fun w hw => ?_, q⟩
    rcases List.mem_cons.mp hw with e | hw
    · rw [e]; exact h1
    · have h2 := (List.pairwise_cons.mp q).1 w hw
      have a := of_decide_eq_false h1
      have b := of_decide_eq_false h2
      exact decide_eq_false fun c => by
        have := List.lt_of_le_of_lt (List.not_lt.mp b) c
        exact a this
theorem sorted_pw {l : List Str} (h : sortedS l = true) : l.Pairwise (fun a b => ltS b a = false) := by
  cases l with
  | nil => exact List.Pairwise.nil
  | cons x r => exact rising_pw h
theorem str_eq {x y : Str} (h1 : ltS x y = false) (h2 : ltS y x = false) : x = y := by
  have e := List.le_antisymm (List.not_lt.mp (of_decide_eq_false h2)) (List.not_lt.mp (of_decide_eq_false h1))
  cases x
  cases y
  exact congrArg _ (Array.toList_inj.mp e)
/-- sorted, each once: growing -/
theorem sorted_gr {l : List Str} (h : sortedS l = true) (nd : l.Nodup) : grS l = true := by
  refine pw_grS ((sorted_pw h).imp₂ (fun a b h1 h2 => ?_) nd)
  cases e : ltS a b with
  | true => rfl
  | false => exact absurd (str_eq e h1) h2
theorem gr_nodup {l : List Str} (h : grS l = true) : l.Nodup := (grS_pw h).imp fun {a b} q e => by
  rw [e, ltS_irr] at q
  cases q
/-- two growing lists of the same texts are one -/
theorem gr_uniq : ∀ {l m : List Str}, l.Pairwise (fun a b => ltS a b = true) → m.Pairwise (fun a b => ltS a b = true) → (∀ k, k ∈ l ↔ k ∈ m) → l = m
  | [], [], _, _, _ => rfl
  | [], y :: m, _, _, h => by have := (h y).mpr List.mem_cons_self; cases this
  | x :: l, [], _, _, h => by have := (h x).mp List.mem_cons_self; cases this
  | x :: l, y :: m, p, q, h => by
    obtain ⟨p1, p2⟩ := List.pairwise_cons.mp p
    obtain ⟨q1, q2⟩ := List.pairwise_cons.mp q
    have e : x = y := by
      rcases List.mem_cons.mp ((h x).mp List.mem_cons_self) with e | hx
      · exact e
      · rcases List.mem_cons.mp ((h y).mpr List.mem_cons_self) with e | hy
        · exact e.symm
        · have c := ltS_trans (q1 x hx) (p1 y hy)
          rw [ltS_irr] at c
          cases c
    subst e
    refine congrArg _ (gr_uniq p2 q2 fun k => ⟨fun hk => ?_, fun hk => ?_⟩)
    · rcases List.mem_cons.mp ((h k).mp (List.mem_cons_of_mem _ hk)) with e | hm
      · have := p1 k hk
        rw [e, ltS_irr] at this
        cases this
      · exact hm
    · rcases List.mem_cons.mp ((h k).mpr (List.mem_cons_of_mem _ hk)) with e | hm
      · have := q1 k hk
        rw [e, ltS_irr] at this
        cases this
      · exact hm
/-- xs against sorted(set(xs)) -/
theorem gr_set {xs ks : List Str} (hs : sortedS ks = true) (nd : ks.Nodup) (hm : ∀ k, k ∈ ks ↔ k ∈ xs) : decide (xs = ks) = grS xs := by
  have g := sorted_gr hs nd
  by_cases h : grS xs = true
  · rw [h]
    exact decide_eq_true (gr_uniq (grS_pw h) (grS_pw g) fun k => (hm k).symm)
  · rw [decide_eq_false fun e => h (by rw [e]; exact g)]
    simpa using h
end FB

set_option Elab.async false
set_option linter.all false
set_option maxRecDepth 100000
set_option maxHeartbeats 4000000
/-! FB, part x: rights and groups as data; loops over tuples; lists of texts compared. -/
namespace FB
open PySem PySem.Spec PyProof.Rows L2 RZ
def texts4 : List Str := ["", "r", "w", "rw"]
/-- one of the four texts -/
def isRT : PyData → Bool
  | .str x => inV (.str x) (texts4.map V.str)
  | _ => false
def isRightsD : PyData → Bool
  | .tuple ds => decide (ds.length = 3) && ds.all isRT
  | _ => false
def sD : PyData → Str
  | .str x => x
  | _ => Str.empty
def isUsersD : PyData → Bool
  | .tuple ds => ds.all isWordD && grS (ds.map sD)
  | _ => false
def isGroupD : PyData → Bool
  | .tuple ds => decide (ds.length = 2) && (isWordD (ds.getD 0 .none) && isUsersD (ds.getD 1 .none))
  | _ => false
def nameD : PyData → Str
  | .tuple ds => sD (ds.getD 0 .none)
  | _ => Str.empty
def isGroupsD : PyData → Bool
  | .tuple ds => decide (ds.length ≤ 8) && (ds.all isGroupD && grS (ds.map nameD))
  | _ => false
/-- sizes, some levels deep -/
def Bd : Nat → PyData → Prop
  | 0, d => Sl d
  | n + 1, d => Sl d ∧ ∀ ds, d = .tuple ds → ds.length ≤ 60 ∧ ∀ e ∈ ds, Bd n e
theorem Bd.sl : ∀ {n : Nat} {d : PyData}, Bd n d → Sl d
  | 0, _, h => h
  | _ + 1, _, h => h.1
theorem Bd.dn : ∀ {n : Nat} {d : PyData}, Bd (n + 1) d → Bd n d
  | 0, _, h => h.1
  | _ + 1, _, h => ⟨h.1, fun ds e => ⟨(h.2 ds e).1, fun x hx => Bd.dn ((h.2 ds e).2 x hx)⟩⟩
theorem Bd.tup {n : Nat} {ds : List PyData} (h : ∀ d ∈ ds, Bd n d) (hl : ds.length ≤ 60) : Bd n (.tuple ds) :=
  Bd.dn (n := n) ⟨fun x e => (by cases e), fun es e => by cases e; exact ⟨hl, h⟩⟩
theorem Bd.of {n : Nat} {d : PyData} (h : Sl d) (ht : ∀ ds, d ≠ .tuple ds) : Bd n d := by
  cases n with
  | zero => exact h
  | succ n => exact ⟨h, fun ds e => absurd e (ht ds)⟩
theorem DU.strAt {U : Addr → Prop} {H : Hp} {v : V} {x : Str} (h : DU U H v (.str x)) : v = .str x := by
  cases h; rfl
theorem grS_zip : ∀ xs : List Str, grS xs = (xs.zip (xs.drop 1)).all (fun p => ltS p.1 p.2)
  | [] => rfl
  | [x] => rfl
  | x :: y :: r => by
    show (ltS x y && grS (y :: r)) = _
    rw [grS_zip (y :: r)]
    rfl
theorem cut_tail (xs : List V) : cutV xs (some 1) none = xs.drop 1 := by
  unfold cutV
  rw [show (some (1 : Int)) = some ((1 : Nat) : Int) from rfl, HT.sIx_nat, HT.sIx_none, List.take_of_length_le (by rw [List.length_drop]; exact Nat.le_refl _)]
  by_cases h : 1 ≤ xs.length
  · rw [Nat.min_eq_left h]
  · have : xs = [] := List.length_eq_zero_iff.mp (by omega)
    rw [this]
    rfl
section
variable {z : Zn} {K : PySem.W.Frag} {σ : L2.St} {H : Hp} {te ta tb : TE} {D : Ends} {ts : TS} {j : Nat}
/-- what a tuple that stands reads as in the zone -/
theorem s_forT {xs : List V} (hR : z.R H H) (h : Ev z te σ H (Tup z fun ws _ => ws = xs)) (main : ∀ H1, z.R H H1 → ∃ Pv : Nat → L2.St → Hp → Prop, Pv 0 σ H1 ∧ (∀ i σ' H', Pv i σ' H' → z.W H1 H') ∧
      (∀ i x σ' H', xs[i]? = some x → Pv i σ' H' → ts { D with nx := Pv (i + 1), ct := Pv (i + 1), bk := D.nx } (σ'.set j (some x)) H') ∧ ∀ σ' H', Pv xs.length σ' H' → D.nx σ' H') : tFor (iTup K te) (gName j) ts D σ H :=
  h H hR _ fun v H1 e f => by
    obtain ⟨p, ws, ev, nu, hp, ew⟩ := f H1 .refl
    subst ew
    obtain ⟨Pv, p0, pw, ps, pd⟩ := main H1 e
    exact ⟨p, ev, ⟨ws, .inl (.inl hp)⟩, for_tup (K := K) (a := p) (xs := ws) Pv p0 (fun i σ' H' _ q => .inl (.inl (pw i σ' H' q p _ nu hp))) (fun i x σ' H' hx q => ps i x σ' H' hx q) pd⟩
theorem q_forT {tu : TS} {xs : List V} (hR : z.R H H) (h : Ev z te σ H (Tup z fun ws _ => ws = xs)) (main : ∀ H1, z.R H H1 → ∃ Pv : Nat → L2.St → Hp → Prop, Pv 0 σ H1 ∧ (∀ i σ' H', Pv i σ' H' → z.W H1 H') ∧
      (∀ i x σ' H', xs[i]? = some x → Pv i σ' H' → ts { D with nx := Pv (i + 1), ct := Pv (i + 1), bk := tu D } (σ'.set j (some x)) H') ∧ ∀ σ' H', Pv xs.length σ' H' → tu D σ' H') : tSeq (tFor (iTup K te) (gName j) ts) tu D σ H := s_forT (D := { D with nx := tu D }) hR h main
/-- words[1:] of a tuple or a list -/
theorem ev_sl1 {t : Bool} {xs : List V} {a : Addr} {tl : TO} (h : Ev z te σ H (Is (.ref a))) (h1 : EvO z tl σ H (· = some 1)) (nu : ¬ z.U a) (ha : H a = some (sq t xs)) :
    Ev z (L2.tSl (fun x lo hi H Q => rSlA K x lo hi H Q ∨ rSlL K x lo hi H Q) te tl tNoPart) σ H (fun v H' => ∃ p, v = .ref p ∧ ¬ z.U p ∧ H' p = some (sq t (xs.drop 1))) :=
  ev_sl h h1 eo_none fun v H1 r e Q q => by
    have e' : v = .ref a := e
    subst e'
    have ha1 := r.w a _ nu ha
    cases t with
    | true =>
      refine .inl ⟨a, xs, rfl, .inl (.inl ha1), fun hc => ?_, fun _ p hp => ?_⟩
      · refine q _ H1 r.dr fun H3 w => ⟨a, rfl, nu, ?_⟩
        rw [← cut_tail, cutV_all hc.1 hc.2]
        exact w a _ nu ha1
      · refine q _ _ (r.dr.new hp) fun H3 w => ⟨p, rfl, r.dr.nu hp, ?_⟩
        rw [← cut_tail]
        exact w p _ (r.dr.nu hp) upd_same
    | false =>
      refine .inr ⟨a, xs, rfl, .inl (.inl ha1), fun p hp => ?_⟩
      refine q _ _ (r.dr.new hp) fun H3 w => ⟨p, rfl, r.dr.nu hp, ?_⟩
      rw [← cut_tail]
      exact w p _ (r.dr.nu hp) upd_same
end
/-- a look whether texts grow -/
def spGrow : Sp := fun vs H Q _ => ∃ (z : Zn) (a : Addr) (t : Bool) (xs : List Str), vs = [.ref a] ∧ z.R H H ∧ ¬ z.U a ∧ H a = some (sq t (xs.map V.str)) ∧ xs.length ≤ 1000 ∧ ∀ H', z.R H H' → Q (.bl (grS xs)) H'
section
variable {z : Zn} {K : PySem.W.Frag} {σ : L2.St} {H : Hp} {te ta tb : TE}
theorem ev_growT {xs : List Str} {E : XK} (h : Ev z te σ H (Tup z fun ws _ => ws = xs.map V.str)) (hl : xs.length ≤ 1000) : Ev z (tCall spGrow [] E (tCons te tNil)) σ H (Is (.bl (grS xs))) :=
  ev_call (ea_cons h fun v H1 r _ => ea_nil) fun vs H1 r ⟨v, rr, e, ⟨p, ws, ev, nu, hp, ew⟩, er⟩ Q q => ⟨z, p, true, xs, by rw [e, er, ev]; rfl, r.dr, nu, by rw [← ew]; exact hp, hl, fun H' r' => q _ H' r' fun _ _ => rfl⟩
theorem ev_growL {xs : List Str} {E : XK} (h : Ev z te σ H (Lst z fun ws _ => ws = xs.map V.str)) (hl : xs.length ≤ 1000) : Ev z (tCall spGrow [] E (tCons te tNil)) σ H (Is (.bl (grS xs))) :=
  ev_call (ea_cons h fun v H1 r _ => ea_nil) fun vs H1 r ⟨v, rr, e, ⟨p, ws, ev, nu, hp, ew⟩, er⟩ Q q => ⟨z, p, false, xs, by rw [e, er, ev]; rfl, r.dr, nu, by rw [← ew]; exact hp, hl, fun H' r' => q _ H' r' fun _ _ => rfl⟩
/-- all([x < y for x, y in zip(words, words[1:])]) -/
theorem ev_grow {t : Bool} {xs : List Str} {a : Addr} {i j k : Nat} {vs : List Nat} (e : σ[i]? = some (some (.ref a))) (nu : ¬ z.U a) (ha : H a = some (sq t (xs.map V.str))) (hl : xs.length ≤ 1000) (hv : ∀ x y, wipe (((wipe σ vs).set j (some x)).set k (some y)) vs = wipe σ vs)
    (hj : ∀ x y : V, (((wipe σ vs).set j (some x)).set k (some y))[j]? = some (some x)) (hk : ∀ x y : V, (((wipe σ vs).set j (some x)).set k (some y))[k]? = some (some y)) :
    Ev z (tCB (rAll K) (tCons (tLc (iZipA K (tCons (tVar i) (tCons (L2.tSl (fun x lo hi H Q => rSlA K x lo hi H Q ∨ rSlL K x lo hi H Q) (tVar i) (tPart (tC (.int 1))) tNoPart) tNil))) (gTup K 2 (gCons (gName j) (gCons (gName k) gNil))) tYes
      (tOp (fun x y H Q => ∃ i j, x = .str i ∧ y = .str j ∧ Q (.bl (decide (i.cps.toList < j.cps.toList))) H) (tVar j) (tVar k)) vs) tNil)) σ H (Is (.bl (grS xs))) := by
  have hz := ev_lcZ (z := z) (K := K) (σ := σ) (H := H) (te := tOp (fun x y H Q => ∃ i j, x = .str i ∧ y = .str j ∧ Q (.bl (decide (i.cps.toList < j.cps.toList))) H) (tVar j) (tVar k)) (t := t) (xs := xs.map V.str) (ys := (xs.map V.str).drop 1) (j := j) (k := k) (vs := vs)
    (φ := fun i w _ => ∃ p, (xs.zip (xs.drop 1))[i]? = some p ∧ w = .bl (ltS p.1 p.2))
    (ta := tCons (tVar i) (tCons (L2.tSl (fun x lo hi H Q => rSlA K x lo hi H Q ∨ rSlL K x lo hi H Q) (tVar i) (tPart (tC (.int 1))) tNoPart) tNil)) ?_ ?_ ?_ hv ?_
  · refine ev_to (ev_all (bs := (xs.zip (xs.drop 1)).map fun p => ltS p.1 p.2) (hz.imp fun v H' _ ⟨p, ws, e1, e2, e3, e4, e5⟩ => ⟨p, ws, e1, e2, e3, bl_of ?_ e5⟩)) ?_
    · rw [e4, List.length_drop, List.length_map, List.length_zip, List.length_drop]
      omega
    · rw [List.all_map, grS_zip]
      rfl
  · refine (ea_cons (φ := Is (.ref a)) (ev_is e) fun v H1 r _ => ea_cons (ev_sl1 (K := K) (ev_is e) (eo_some ev_k) nu (r.w a _ nu ha)) fun v H2 r2 _ => ea_nil).imp ?_
    rintro us H' w ⟨v, r, rfl, e1, v2, r2, rfl, ⟨p, rfl, np, hp⟩, rfl⟩
    exact ⟨a, p, by rw [show v = .ref a from e1], nu, np, w a _ nu ha, hp⟩
  · rw [List.length_drop]; omega
  · rw [List.length_drop, List.length_map]; omega
  · intro i' x y D H1 hx hy hD r rD
    rw [List.getElem?_map] at hx
    obtain ⟨x', hx', rfl⟩ := Option.map_eq_some_iff.mp hx
    rw [← List.map_drop, List.getElem?_map] at hy
    obtain ⟨y', hy', rfl⟩ := Option.map_eq_some_iff.mp hy
    refine (ev_ltS (ev_is (hj _ _)) (ev_is (hk _ _))).imp fun v H' _ e => ⟨(x', y'), ?_, e⟩
    rw [List.getElem?_zip_eq_some]
    exact ⟨hx', hy'⟩
end
/-! ### lists of texts compared -/
theorem str_beq (x y : Str) : (x == y) = decide (x = y) := by
  by_cases h : x = y
  · rw [decide_eq_true h, h]; exact beq_self_eq_true y
  · rw [decide_eq_false h]; exact beq_eq_false_iff_ne.mpr h
theorem eqv_strs : ∀ (xs ys : List Str), PyData.eqvAll (xs.map PyData.str) (ys.map PyData.str) = decide (xs = ys)
  | [], [] => by simp [PyData.eqvAll]
  | [], y :: ys => by simp [PyData.eqvAll]
  | x :: xs, [] => by simp [PyData.eqvAll]
  | x :: xs, y :: ys => by
    simp only [List.map_cons, PyData.eqvAll, PyData.eqv, eqv_strs xs ys, str_beq]
    by_cases h : x = y
    · by_cases h2 : xs = ys
      · simp [h, h2]
      · simp [h, h2]
    · simp [h]
theorem dp_strs {K : PySem.W.Frag} {H : Hp} {p : Addr} {xs : List Str} (h : H p = some (.lst (xs.map V.str))) : Dp K H (.ref p) (.list (xs.map PyData.str)) := by
  refine .lst (.inl (.inl h)) ?_
  clear h
  induction xs with
  | nil => exact .nil
  | cons b r ih => exact .cons (.str b) ih
theorem small_ok {x : Str} (h : ∀ c ∈ x.cps.toList, c < 1000) : PyData.canLay0 (.str x) = true := by
  have q : PyData.strOk x = true := by
    unfold PyData.strOk
    rw [← Array.all_toList, List.all_eq_true]
    exact fun c hc => decide_eq_true (Nat.lt_trans (h c hc) (by decide))
  simpa only [PyData.canLay0] using q
theorem word_ok {x : Str} (h : isW x = true) : PyData.canLay0 (.str x) = true := by
  have h' : x.cps.toList.all low = true := by
    unfold isW at h
    rw [Bool.and_eq_true] at h
    exact h.2
  exact small_ok fun c hc => by
    have q := List.all_eq_true.mp h' c hc
    unfold low at q
    rw [Bool.and_eq_true] at q
    have := of_decide_eq_true q.2
    omega
theorem shaped_strs {xs : List Str} (h : ∀ x ∈ xs, PyData.canLay0 (.str x) = true) : SeqAt.shaped (.list (xs.map PyData.str)) = true := by
  have a : PyData.canLayAll0 (xs.map PyData.str) = true ∧ PyData.depthAll (xs.map PyData.str) ≤ 1 := by
    induction xs with
    | nil => exact ⟨rfl, Nat.zero_le _⟩
    | cons x r ih =>
      obtain ⟨h1, h2⟩ := ih fun y hy => h y (List.mem_cons_of_mem _ hy)
      refine ⟨?_, ?_⟩
      · simp only [List.map_cons, PyData.canLayAll0, h x List.mem_cons_self, h1, Bool.and_self]
      · simp only [List.map_cons, PyData.depthAll, PyData.depth]
        omega
  unfold SeqAt.shaped
  rw [Bool.and_eq_true]
  refine ⟨by simp only [PyData.canLay0]; exact a.1, decide_eq_true ?_⟩
  simp only [PyData.depth]
  omega
section
variable {z : Zn} {K : PySem.W.Frag} {σ : L2.St} {H : Hp} {te ta tb : TE}
theorem ev_sortSet {xs : List Str} (h : Ev z te σ H (fun v H' => ∃ p, v = .ref p ∧ (SqL K H' p (xs.map V.str) ∨ SqT K H' p (xs.map V.str)))) (h64 : xs.length < 64) :
    Ev z (tSortSet K te) σ H (Lst z fun ws _ => ∃ ks, ws = ks.map V.str ∧ sortedS ks = true ∧ ks.Nodup ∧ (∀ k, k ∈ ks ↔ k ∈ xs) ∧ ks.length ≤ xs.length) := fun H1 e Q q => h H1 e _ fun v H2 e2 f => by
  obtain ⟨p, rfl, hp⟩ := f H2 .refl
  exact ⟨p, xs, rfl, hp, h64, fun ks p' h1 h2 h3 h4 hn => q _ _ (e2.tr (e2.dr.new hn)) fun H3 w => ⟨p', _, rfl, e2.dr.nu hn, w p' _ (e2.dr.nu hn) upd_same, ks, rfl, h1, h2, h3, h4⟩⟩
/-- list(xs) != sorted(set(xs)) -/
theorem ev_neSet {xs : List Str} (ha : Ev z ta σ H (Lst z fun ws _ => ws = xs.map V.str)) (hb : ∀ H1, z.R H H1 → Ev z tb σ H1 (fun v H' => ∃ p, v = .ref p ∧ (SqL K H' p (xs.map V.str) ∨ SqT K H' p (xs.map V.str)))) (h64 : xs.length < 64) (hw : ∀ x ∈ xs, PyData.canLay0 (.str x) = true) :
    Ev z (tOp (rNeD K) ta (tSortSet K tb)) σ H (Is (.bl (!grS xs))) :=
  ev_op ha (fun _ H1 r _ => ev_sortSet (hb H1 r) h64) fun x y H1 r ⟨p, ws, e1, _, h1, e2⟩ ⟨q, vs, e3, _, h3, ks, e4, k1, k2, k3, _⟩ => by
    subst e2
    subst e4
    subst e1
    subst e3
    refine rn_val r.dr (fun Q k => ⟨_, _, dp_strs h1, dp_strs h3, shaped_strs hw, shaped_strs fun x hx => hw x ((k3 x).mp hx), k⟩) fun _ _ => ?_
    show V.bl _ = V.bl _
    rw [show PyData.eqv (.list (xs.map PyData.str)) (.list (ks.map PyData.str)) = PyData.eqvAll (xs.map PyData.str) (ks.map PyData.str) by simp only [PyData.eqv], eqv_strs, gr_set k1 k2 k3]
end
theorem gr_of_adj : ∀ {xs : List Str}, (∀ j x y, xs[j]? = some x → xs[j + 1]? = some y → ltS x y = true) → grS xs = true
  | [], _ => rfl
  | [x], _ => rfl
  | x :: y :: r, h => by
    show (ltS x y && grS (y :: r)) = true
    rw [h 0 x y rfl rfl, gr_of_adj (xs := y :: r) fun j a b ha hb => h (j + 1) a b ha hb]
    rfl
theorem gr_adj {xs : List Str} {j : Nat} {x y : Str} (hx : xs[j]? = some x) (hy : xs[j + 1]? = some y) (h : ltS x y = false) : grS xs = false := by
  cases e : grS xs with
  | false => rfl
  | true =>
    obtain ⟨h1, e1⟩ := List.getElem?_eq_some_iff.mp hx
    obtain ⟨h2, e2⟩ := List.getElem?_eq_some_iff.mp hy
    have q := List.pairwise_iff_getElem.mp (grS_pw e) j (j + 1) h1 h2 (Nat.lt_succ_self j)
    rw [e1, e2, h] at q
    cases q
end FB

set_option Elab.async false
set_option linter.all false
set_option maxRecDepth 100000
set_option maxHeartbeats 4000000
/-! FB, part l: t.strip(letters), not t. -/
namespace FB
open PySem PySem.Spec PyProof.Rows L2
theorem getD_mem {x : Str} {k : Nat} (h : k < x.length) : ∃ h' : k < x.cps.toList.length, x.cps.getD k 0 = x.cps.toList[k]'h' := by
  have h' : k < x.cps.toList.length := by simpa [Str.length] using h
  refine ⟨h', ?_⟩
  rw [← getD_list]
  simp [List.getD, List.getElem?_eq_getElem h']
/-- what is left of a text stripped of signs is nothing just where all its signs are such -/
theorem strip_len (x y : Str) : decide ((Txt.stripChars x y).length = 0) = x.cps.toList.all (fun c => y.cps.contains c) := by
  unfold Txt.stripChars
  rw [PyProof.Rows.stripBy_eq]
  obtain ⟨l1, l2, l3⟩ := lo_facts y.cps.contains x
  obtain ⟨h1, h2, h3, _⟩ := hi_facts y.cps.contains x (stripLo y.cps.contains true x) l1
  rw [size_strSub _ _ _ h2]
  by_cases ha : x.cps.toList.all (fun c => y.cps.contains c) = true
  · rw [ha]
    have e : stripLo y.cps.contains true x = x.length := by
      rcases l3 with h | h
      · exact h
      · by_cases hk : stripLo y.cps.contains true x < x.length
        · obtain ⟨h', e⟩ := getD_mem hk
          rw [e] at h
          have := List.all_eq_true.mp ha _ (List.getElem_mem h')
          rw [this] at h
          cases h
        · omega
    exact decide_eq_true (by omega)
  · have ha' : x.cps.toList.all (fun c => y.cps.contains c) = false := by simpa using ha
    rw [ha']
    refine decide_eq_false fun e => ha (List.all_eq_true.mpr fun c hc => ?_)
    obtain ⟨k, hk, ec⟩ := List.getElem_of_mem hc
    have hk' : k < x.length := by simpa [Str.length] using hk
    obtain ⟨h', e'⟩ := getD_mem hk'
    rw [← ec, ← e']
    by_cases hlo : k < stripLo y.cps.contains true x
    · exact l2 k hlo
    · exact h3 k (by omega) hk'
theorem az_has (c : Nat) : ("abcdefghijklmnopqrstuvwxyz" : Str).cps.contains c = low c := by
  rw [low_in]
  simp [Array.contains_eq_mem]
theorem strip_az (x : Str) : decide ((Txt.stripChars x "abcdefghijklmnopqrstuvwxyz").length = 0) = x.cps.toList.all low := by
  rw [strip_len]
  congr 1
  funext c
  exact az_has c
section
variable {z : Zn} {K : PySem.W.Frag} {σ : L2.St} {H : Hp} {to ta te : TE}
theorem ev_strip {x y : Str} (h1 : Ev z to σ H (Is (.str x))) (h2 : Ev z ta σ H (Is (.str y))) (hl : x.length ≤ 100000) :
    Ev z (tBM K "str" (fun x xs H Q => ∃ a b, x = .str a ∧ xs = [.str b] ∧ a.length ≤ sizeLine ∧ Q (.str (Txt.stripChars a b)) H) to (tCons ta tNil)) σ H (Is (.str (Txt.stripChars x y))) := fun H1 e Q q =>
  h1 H1 e _ fun v H2 e2 f => by
    have ev : v = .str x := f H2 .refl
    subst ev
    refine ⟨rfl, h2 H2 (e.tr e2) _ fun w H3 e3 g => ?_⟩
    have ew : w = .str y := g H3 .refl
    subst ew
    exact ⟨x, y, rfl, rfl, Nat.le_trans hl (by decide), q _ H3 (e2.tr e3) fun _ _ => rfl⟩
theorem ev_notS {x : Str} (h : Ev z te σ H (Is (.str x))) (hl : x.length ≤ 100000) : Ev z (tNotT K te) σ H (Is (.bl (decide (x.length = 0)))) := fun H1 e Q q =>
  h H1 e _ fun v H2 e2 f => by
    have ev : v = .str x := f H2 .refl
    subst ev
    refine ⟨_, ⟨Nat.le_trans hl (by decide), rfl⟩, ?_⟩
    have e3 : (!((x.length : Int) != 0)) = decide (x.length = 0) := by
      by_cases h : x.length = 0
      · rw [h]; rfl
      · rw [decide_eq_false h]
        simp [bne, h]
    rw [e3]
    exact q _ H2 e2 fun _ _ => rfl
/-- not x.strip(letters) -/
theorem ev_onlyAz {x : Str} (h1 : Ev z to σ H (Is (.str x))) (h2 : Ev z ta σ H (Is (.str "abcdefghijklmnopqrstuvwxyz"))) (hl : x.length ≤ 100000) :
    Ev z (tNotT K (tBM K "str" (fun x xs H Q => ∃ a b, x = .str a ∧ xs = [.str b] ∧ a.length ≤ sizeLine ∧ Q (.str (Txt.stripChars a b)) H) to (tCons ta tNil))) σ H (Is (.bl (x.cps.toList.all low))) := by
  rw [← strip_az]
  exact ev_notS (ev_strip h1 h2 hl) (Nat.le_trans (len_stripChars _ _) hl)
/-- a text as a test -/
theorem et_txt {x : Str} (h : Ev z te σ H (Is (.str x))) (hl : x.length ≤ 100000) : EvT z (fun σ H Q => te σ H fun x H' => ∃ k, TruV K x H' k ∧ Q k H') σ H (· = !decide (x.length = 0)) := fun H1 e Q q =>
  h H1 e _ fun v H2 e2 f => by
    have ev : v = .str x := f H2 .refl
    subst ev
    refine ⟨_, ⟨Nat.le_trans hl (by decide), rfl⟩, ?_⟩
    have e3 : ((x.length : Int) != 0) = !decide (x.length = 0) := by
      by_cases h : x.length = 0
      · rw [h]; rfl
      · rw [decide_eq_false h]
        simp [bne, h]
    rw [e3]
    exact q _ H2 e2 rfl
end
end FB

set_option Elab.async false
set_option linter.all false
set_option maxRecDepth 100000
set_option maxHeartbeats 4000000
/-! FB, part m: users and groups looked through one by one; tuples unpacked; a tuple of texts joined. -/
namespace FB
open PySem PySem.Spec PyProof.Rows L2 RZ
/-- USERS, looked through from a text on -/
def goU : Str → List PyData → Bool
  | _, [] => true
  | y, d :: r => (isStrD d && (ltS y (sD d) && decide ((sD d).length ≤ 8))) && goU (sD d) r
def lowAll (ds : List PyData) : Bool := ds.all fun d => (sD d).cps.toList.all low
theorem lt_pos {y x : Str} (h : ltS y x = true) : 1 ≤ x.length := by
  have h' := of_decide_eq_true h
  have hl : x.cps.toList.length = x.length := by simp [Str.length]
  cases e : x.cps.toList with
  | nil => rw [e] at h'; exact absurd h' (List.not_lt_nil _)
  | cons c r => rw [e, List.length_cons] at hl; omega
theorem empty_lt {x : Str} (h : 1 ≤ x.length) : ltS "" x = true := by
  have hl : x.cps.toList.length = x.length := by simp [Str.length]
  refine decide_eq_true ?_
  show ([] : List Nat) < x.cps.toList
  cases e : x.cps.toList with
  | nil => rw [e, List.length_nil] at hl; omega
  | cons c r => exact List.nil_lt_cons c r
theorem goU_eq : ∀ (ds : List PyData) (y : Str), (goU y ds && lowAll ds) = (ds.all isWordD && grS (y :: ds.map sD))
  | [], y => rfl
  | d :: r, y => by
    have ih := goU_eq r (sD d)
    show (((isStrD d && (ltS y (sD d) && decide ((sD d).length ≤ 8))) && goU (sD d) r) && ((sD d).cps.toList.all low && lowAll r)) = ((isWordD d && r.all isWordD) && (ltS y (sD d) && grS (sD d :: r.map sD)))
    cases d with
    | str x =>
      show (((true && (ltS y x && decide (x.length ≤ 8))) && goU x r) && (x.cps.toList.all low && lowAll r)) = ((isW x && r.all isWordD) && (ltS y x && grS (x :: r.map sD)))
      have ih' : (goU x r && lowAll r) = (r.all isWordD && grS (x :: r.map sD)) := ih
      cases hl : ltS y x with
      | false => simp
      | true =>
        have h1 := lt_pos hl
        unfold isW
        rw [decide_eq_true h1]
        revert ih'
        cases decide (x.length ≤ 8) <;> cases x.cps.toList.all low <;> cases goU x r <;> cases lowAll r <;> cases r.all isWordD <;> cases grS (x :: r.map sD) <;> simp
    | _ => simp [isStrD, isWordD]
theorem isU_go (ds : List PyData) : isUsersD (.tuple ds) = (goU "" ds && lowAll ds) := by
  rw [goU_eq]
  show (ds.all isWordD && grS (ds.map sD)) = _
  cases ds with
  | nil => rfl
  | cons d r =>
    cases hw : isWordD d with
    | false => simp [hw]
    | true =>
      cases d with
      | str x =>
        have h1 : 1 ≤ x.length := by
          have : isW x = true := hw
          unfold isW at this
          rw [Bool.and_eq_true, Bool.and_eq_true] at this
          exact of_decide_eq_true this.1.1
        show (_ && grS (x :: r.map sD)) = (_ && (ltS "" x && grS (x :: r.map sD)))
        rw [empty_lt h1, Bool.true_and]
      | _ => cases hw
theorem goU_strs : ∀ (ds : List PyData) (y : Str), goU y ds = true → ∀ d ∈ ds, isStrD d = true ∧ (sD d).length ≤ 8
  | [], _, _, d, h => by cases h
  | e :: r, y, g, d, h => by
    have g' : ((isStrD e && (ltS y (sD e) && decide ((sD e).length ≤ 8))) && goU (sD e) r) = true := g
    rw [Bool.and_eq_true, Bool.and_eq_true, Bool.and_eq_true] at g'
    rcases List.mem_cons.mp h with rfl | h
    · exact ⟨g'.1.1, of_decide_eq_true g'.1.2.2⟩
    · exact goU_strs r _ g'.2 d h
theorem strs_at {U : Addr → Prop} {H : Hp} : ∀ {vs : List V} {ds : List PyData}, DUA U H vs ds → (∀ d ∈ ds, isStrD d = true) → vs = (ds.map sD).map V.str
  | _, _, .nil, _ => rfl
  | _, _, .cons (d := d) h t, hw => by
    have a := strs_at t fun e he => hw e (List.mem_cons_of_mem _ he)
    have hd := hw d List.mem_cons_self
    cases d with
    | str x =>
      cases h
      rw [a]
      simp [sD]
    | _ => cases hd
/-- GROUPS, looked through from a name on -/
def goG : Str → List PyData → Bool
  | _, [] => true
  | y, d :: r => (isGroupD d && ltS y (nameD d)) && goG (nameD d) r
theorem goG_eq : ∀ (ds : List PyData) (y : Str), goG y ds = (ds.all isGroupD && grS (y :: ds.map nameD))
  | [], _ => rfl
  | d :: r, y => by
    have ih := goG_eq r (nameD d)
    show ((isGroupD d && ltS y (nameD d)) && goG (nameD d) r) = ((isGroupD d && r.all isGroupD) && (ltS y (nameD d) && grS (nameD d :: r.map nameD)))
    rw [ih]
    cases isGroupD d <;> cases ltS y (nameD d) <;> simp
theorem group_pos {d : PyData} (h : isGroupD d = true) : 1 ≤ (nameD d).length := by
  cases d with
  | tuple ds =>
    have h' : (decide (ds.length = 2) && (isWordD (ds.getD 0 .none) && isUsersD (ds.getD 1 .none))) = true := h
    rw [Bool.and_eq_true, Bool.and_eq_true] at h'
    show 1 ≤ (sD (ds.getD 0 .none)).length
    generalize ds.getD 0 .none = e at h' ⊢
    cases e with
    | str x =>
      have : isW x = true := h'.2.1
      unfold isW at this
      rw [Bool.and_eq_true, Bool.and_eq_true] at this
      exact of_decide_eq_true this.1.1
    | _ => cases h'.2.1
  | _ => cases h
theorem isG_go (ds : List PyData) : isGroupsD (.tuple ds) = (decide (ds.length ≤ 8) && goG "" ds) := by
  rw [goG_eq]
  show (_ && (ds.all isGroupD && grS (ds.map nameD))) = _
  cases ds with
  | nil => rfl
  | cons d r =>
    cases hw : isGroupD d with
    | false => simp [hw]
    | true =>
      show (_ && (_ && grS (nameD d :: r.map nameD))) = (_ && (_ && (ltS "" (nameD d) && grS (nameD d :: r.map nameD))))
      rw [empty_lt (group_pos hw), Bool.true_and]
theorem drop_at {α : Type} {l : List α} {i : Nat} {x : α} (h : l[i]? = some x) : l.drop i = x :: l.drop (i + 1) := by
  obtain ⟨hi, e⟩ := List.getElem?_eq_some_iff.mp h
  rw [List.drop_eq_getElem_cons hi, e]
section
variable {z : Zn} {K : PySem.W.Frag} {σ : L2.St} {H : Hp} {ts tl te : TE}
/-- s.join(a tuple of texts) -/
theorem ev_joinT {s : Str} {ys : List Str} (h1 : Ev z ts σ H (Is (.str s))) (h2 : Ev z tl σ H (Tup z fun ws _ => ws = ys.map V.str)) (hz : (ys.map (·.length)).sum + ys.length * s.length ≤ 16777216) :
    Ev z (tM1 (fun x xs H Q => ∃ a p, ∃ ys : List Str, x = .str a ∧ xs = [.ref p] ∧ (SqL K H p (ys.map V.str) ∨ SqT K H p (ys.map V.str)) ∧ (ys.map (·.length)).sum + ys.length * a.length ≤ 16777216 ∧ Q (.str (Txt.join a ys)) H) ts tl) σ H
      (Is (.str (Txt.join s ys))) := fun H1 e Q q =>
  h1 H1 e _ fun v H2 e2 f => ⟨⟨s, f H2 .refl⟩, h2 H2 (e.tr e2) _ fun y H3 e3 g => by
    obtain ⟨p, ws, ev, nu, hp, ew⟩ := g H3 .refl
    exact ⟨s, p, ys, f H3 e3.w, by rw [ev], .inr (.inl (.inl (by rw [hp, ew]))), hz, q _ H3 (e2.tr e3) fun _ _ => rfl⟩⟩
theorem sum_le8 : ∀ (ys : List Str), (∀ y ∈ ys, y.length ≤ 8) → (ys.map (·.length)).sum ≤ 8 * ys.length
  | [], _ => Nat.le_refl _
  | y :: r, h => by
    have := sum_le8 r fun x hx => h x (List.mem_cons_of_mem _ hx)
    have := h y List.mem_cons_self
    simp only [List.map_cons, List.sum_cons, List.length_cons]
    omega
theorem join_len8 {ys : List Str} (h : ∀ y ∈ ys, y.length ≤ 8) : (Txt.join "" ys).length ≤ 8 * ys.length := by
  rw [TL.join_eq]
  have h1 := StrLaws.join_length_le "" ys
  have h2 := sum_le8 ys h
  have h3 : ("" : Str).length = 0 := rfl
  rw [h3, Nat.mul_zero] at h1
  omega
theorem join_low (ys : List Str) : (Txt.join "" ys).cps.toList.all low = ys.all fun y => y.cps.toList.all low := by
  rw [TL.join_eq, Bool.eq_iff_iff, List.all_eq_true, List.all_eq_true]
  constructor
  · intro h y hy
    exact List.all_eq_true.mpr fun c hc => h c ((PyProof.Rows.mem_join _ _ _).mpr (.inl ⟨y, hy, hc⟩))
  · intro h c hc
    rcases (PyProof.Rows.mem_join _ _ _).mp hc with ⟨t, ht, hc⟩ | ⟨_, hc⟩
    · exact List.all_eq_true.mp (h t ht) c hc
    · cases hc
/-- x, y = a pair that stands -/
theorem q_un2 {tu : TS} {D : Ends} {i j : Nat} {a : Addr} {v w : V} (hR : z.R H H) (nu : ¬ z.U a) (ha : H a = some (.tup [v, w])) (h : Ev z te σ H (Is (.ref a))) (k : ∀ H1, z.R H H1 → tu D ((σ.set i (some v)).set j (some w)) H1) :
    tSeq (tAsg te (gTup K 2 (gCons (gName i) (gCons (gName j) gNil)))) tu D σ H := h H hR _ fun x H1 e f => by
  have ex : x = .ref a := f H1 .refl
  subst ex
  exact ⟨a, [v, w], rfl, .inl (.inl (e.w a _ nu ha)), rfl, v, [w], rfl, w, [], rfl, rfl, k H1 e⟩
/-- x, y, w = a tuple of three that stands -/
theorem q_un3 {tu : TS} {D : Ends} {i j l : Nat} {a : Addr} {v w x : V} (hR : z.R H H) (nu : ¬ z.U a) (ha : H a = some (.tup [v, w, x])) (h : Ev z te σ H (Is (.ref a))) (k : ∀ H1, z.R H H1 → tu D (((σ.set i (some v)).set j (some w)).set l (some x)) H1) :
    tSeq (tAsg te (gTup K 3 (gCons (gName i) (gCons (gName j) (gCons (gName l) gNil))))) tu D σ H := h H hR _ fun y H1 e f => by
  have ey : y = .ref a := f H1 .refl
  subst ey
  exact ⟨a, [v, w, x], rfl, .inl (.inl (e.w a _ nu ha)), rfl, v, [w, x], rfl, w, [x], rfl, x, [], rfl, rfl, k H1 e⟩
end
end FB

set_option Elab.async false
set_option linter.all false
set_option maxRecDepth 100000
set_option maxHeartbeats 4000000
namespace K01
open PySem PySem.Spec PyProof.Rows L2 FB
def topS (i : Nat) : Stmt := PySem.Challenge.pw_farfiles_k01_words_and_paths_of_any_kind.main.body.getD i (.Pass ⟨0, 0, 0, 0⟩)
abbrev s_is_word : Stmt := topS 4
theorem sc_is_word : FnScope ["thing"] ["thing"] (defScope s_is_word) := ⟨rfl, rfl, rfl, by decide +kernel, rfl, by decide +kernel, by decide +kernel⟩
abbrev s_is_path : Stmt := topS 5
theorem sc_is_path : FnScope ["thing", "name"] ["thing"] (defScope s_is_path) := ⟨rfl, rfl, rfl, by decide +kernel, rfl, by decide +kernel, by decide +kernel⟩
abbrev s__law_purse : Stmt := topS 7
theorem sc__law_purse : FnScope ["_law_script", "_law_k", "_law_cell"] ["_law_script", "_law_k"] (defScope s__law_purse) := ⟨rfl, rfl, rfl, by decide +kernel, rfl, by decide +kernel, by decide +kernel⟩
abbrev s__law_take : Stmt := topS 8
theorem sc__law_take : FnScope ["_law_purse_here", "_law_many", "_law_found"] ["_law_purse_here", "_law_many"] (defScope s__law_take) := ⟨rfl, rfl, rfl, by decide +kernel, rfl, by decide +kernel, by decide +kernel⟩
abbrev s__law_is_word : Stmt := topS 9
theorem sc__law_is_word : FnScope ["_law_matter", "_law_sign"] ["_law_matter"] (defScope s__law_is_word) := ⟨rfl, rfl, rfl, by decide +kernel, rfl, by decide +kernel, by decide +kernel⟩
abbrev s__law_is_path : Stmt := topS 10
theorem sc__law_is_path : FnScope ["_law_matter", "_law_name_here"] ["_law_matter"] (defScope s__law_is_path) := ⟨rfl, rfl, rfl, by decide +kernel, rfl, by decide +kernel, by decide +kernel⟩
abbrev s__law_name : Stmt := topS 11
theorem sc__law_name : FnScope ["_law_purse_here", "_law_some", "_law_letters", "_law_turn", "_law_own", "_law_letter"] ["_law_purse_here"] (defScope s__law_name) := ⟨rfl, rfl, rfl, by decide +kernel, rfl, by decide +kernel, by decide +kernel⟩
abbrev s__law_bent : Stmt := topS 12
theorem sc__law_bent : FnScope ["_law_purse_here", "_law_name_here", "_law_at", "_law_way_here", "_law_signs", "_law_sign"] ["_law_purse_here", "_law_name_here"] (defScope s__law_bent) := ⟨rfl, rfl, rfl, by decide +kernel, rfl, by decide +kernel, by decide +kernel⟩
abbrev s__law_odd : Stmt := topS 13
theorem sc__law_odd : FnScope ["_law_purse_here", "_law_some"] ["_law_purse_here"] (defScope s__law_odd) := ⟨rfl, rfl, rfl, by decide +kernel, rfl, by decide +kernel, by decide +kernel⟩
abbrev s__law_way : Stmt := topS 14
theorem sc__law_way : FnScope ["_law_purse_here", "_law_way_here", "_law_many", "_law_found", "_law_turn", "_law_at", "_law_odd_here", "_law_name_here"] ["_law_purse_here"] (defScope s__law_way) := ⟨rfl, rfl, rfl, by decide +kernel, rfl, by decide +kernel, by decide +kernel⟩
abbrev s__law_told : Stmt := topS 15
theorem sc__law_told : FnScope ["_law_matter", "_law_kept", "_law_due", "_law_told_here", "_law_one"] ["_law_matter"] (defScope s__law_told) := ⟨rfl, rfl, rfl, by decide +kernel, rfl, by decide +kernel, by decide +kernel⟩
abbrev s_law : Stmt := topS 16
theorem sc_law : FnScope ["_law_script", "_law_fixed", "_law_matter", "_law_k", "_law_purse_here", "_law_turn", "_law_name_here", "_law_way_here"] ["_law_script"] (defScope s_law) := ⟨rfl, rfl, rfl, by decide +kernel, rfl, by decide +kernel, by decide +kernel⟩
/-- what the module's names hold -/
structure Tx (mg : Str → Option Value) (tL t8 t6 : Tok) : Prop where
  len : mg "len" = none
  all : mg "all" = none
  isinstance : mg "isinstance" = none
  repr : mg "repr" = none
  str : mg "str" = none
  tuple : mg "tuple" = none
  bool : mg "bool" = none
  list : mg "list" = none
  max : mg "max" = none
  min : mg "min" = none
  range : mg "range" = none
  c_LETTERS : mg "LETTERS" = some (.str "abcdefghijklmnopqrstuvwxyz" tL)
  c_MOST_LETTERS : mg "MOST_LETTERS" = some (.int 8 t8)
  c_MOST_NAMES : mg "MOST_NAMES" = some (.int 6 t6)
/-- a name of a good length -/
def okN : PyData → Bool
  | .str x => decide (1 ≤ x.length) && decide (x.length ≤ 8)
  | _ => false
theorem word_okN (ds : List PyData) : ds.all isWordD = (ds.all okN && ds.all fun d => (sD d).cps.toList.all low) := by
  induction ds with
  | nil => rfl
  | cons d r ih =>
    show (isWordD d && r.all isWordD) = ((okN d && r.all okN) && ((sD d).cps.toList.all low && _))
    rw [ih]
    cases d with
    | str x =>
      show ((decide (1 ≤ x.length) && decide (x.length ≤ 8) && x.cps.toList.all low) && _) = (((decide (1 ≤ x.length) && decide (x.length ≤ 8)) && _) && (x.cps.toList.all low && _))
      generalize (decide (1 ≤ x.length) && decide (x.length ≤ 8)) = a
      generalize x.cps.toList.all low = b
      generalize r.all okN = c
      generalize (r.all fun d => (sD d).cps.toList.all low) = e
      revert a b c e
      decide
    | _ => simp [isWordD, okN]
theorem okN_strs {ds : List PyData} (h : ds.all okN = true) : ∀ d ∈ ds, isStrD d = true ∧ (sD d).length ≤ 8 := fun d hd => by
  have e := List.all_eq_true.mp h d hd
  cases d with
  | str x =>
    have e' : (decide (1 ≤ x.length) && decide (x.length ≤ 8)) = true := e
    rw [Bool.and_eq_true] at e'
    exact ⟨rfl, of_decide_eq_true e'.2⟩
  | _ => cases e
section
variable {P : Program} {w : World} {K : PySem.W.Frag} {mg : Str → Option Value} {base : Heap} {tL t8 t6 : Tok}
theorem ok_is_word (T : Tx mg tL t8 t6) (d_is_word : Df K mg "is_word" s_is_word ["thing"]) : FnOk P w K mg base CX0 1 d_is_word.f d_is_word.fd ["thing"] (spLook Sl isWordD) := by
  refine d_is_word.F.ok sc_is_word spLook_len (fun cdv A outer s H vs Q E hr h => ?_)
  obtain ⟨z, v, d, rfl, hz, hv, hs, q⟩ := h
  refine ⟨_, (pss_cons (ps_if (pt_not (pt_val (pe_callB (k_isi (K := K)) (by rfl) T.isinstance (by decide +kernel) (pa_cons (pv 0) (pa_cons (pe_bltn (v := .ty "str") (by rfl) T.str (by decide +kernel) rfl) pa_nil)))))
    (pss_one (ps_ret pe_bl))
    pss_nil)
    (pss_one (ps_ret (pe_and (pe_chain op_le op_le pe_int (pe_callB (k_len (K := K)) (by rfl) T.len PySem.boot_len (pa_cons (pv 0) pa_nil)) (pe_glob (v := .int 8) (by rfl) T.c_MOST_LETTERS ⟨_, rfl⟩)) (pe_one (pe_notT (pe_bm PySem.F.plainAttrs_str PySem.F.slot_str_strip PySem.F.type_str_strip mt_stripChars (pv 0) (pa_cons (pe_glob (v := .str "abcdefghijklmnopqrstuvwxyz") (by rfl) T.c_LETTERS ⟨_, rfl⟩) pa_nil)))))))), ?_⟩
  refine q_if (z := z) hz (et_not (et_B (ev_isi (ev_var rfl fun H' w => hv.w w) (kit_str d)))) (fun hb H1 r1 => ?_) (fun hb H1 r1 => ?_)
  · refine s_ret r1.dr ev_k fun v' H2 r2 f => ?_
    have e : v' = .bl false := f H2 .refl
    have e2 : isWordD d = false := by cases d <;> first | rfl | cases hb
    subst e
    rw [← e2]
    exact q H2 (r1.tr r2)
  · obtain ⟨x, rfl⟩ : ∃ x, d = .str x := by cases d <;> first | exact ⟨_, rfl⟩ | cases hb
    have ev : v = .str x := by cases hv; rfl
    subst ev
    have hx := hs x rfl
    refine s_ret (φ := Is (.bl ((decide ((1 : Int) ≤ (x.length : Int)) && decide ((x.length : Int) ≤ 8)) && x.cps.toList.all low))) r1.dr (ev_and (ev_chain ev_k (ev_lenS (ev_is rfl) (by omega)) (fun _ => ev_k) (fun H2 r2 => rn_i0 r2.dr) (fun H2 r2 => rn_i0 r2.dr)) fun _ => ev_onlyAz (ev_is rfl) ev_k (by omega)) fun v' H3 r3 f => ?_
    have e := f H3 .refl
    subst e
    have e2 : isWordD (.str x) = ((decide ((1 : Int) ≤ (x.length : Int)) && decide ((x.length : Int) ≤ 8)) && x.cps.toList.all low) := by
      show isW x = _
      unfold isW
      congr 2
      · exact decide_eq_decide.mpr (by omega)
      · exact decide_eq_decide.mpr (by omega)
    rw [← e2]
    exact q H3 (r1.tr r3)

theorem ok_law_is_word (T : Tx mg tL t8 t6) (d__law_is_word : Df K mg "_law_is_word" s__law_is_word ["_law_matter"]) : FnOk P w K mg base CX0 1 d__law_is_word.f d__law_is_word.fd ["_law_matter"] (spLook Sl isWordD) := by
  refine d__law_is_word.F.ok sc__law_is_word spLook_len (fun cdv A outer s H vs Q E hr h => ?_)
  obtain ⟨z, v, d, rfl, hz, hv, hs, q⟩ := h
  refine ⟨_, (pss_cons (ps_if (PW.pt (pw_or (pt_not (pt_val (pe_callB (k_isi (K := K)) (by rfl) T.isinstance (by decide +kernel) (pa_cons (pv 0) (pa_cons (pe_bltn (v := .ty "str") (by rfl) T.str (by decide +kernel) rfl) pa_nil))))) (pw_or1 (pt_not (pt_chain op_le op_le pe_int (pe_callB (k_len (K := K)) (by rfl) T.len PySem.boot_len (pa_cons (pv 0) pa_nil)) pe_int)))))
    (pss_one (ps_ret pe_bl))
    pss_nil)
    (pss_one (ps_ret (pe_callB (k_all (K := K)) (by rfl) T.all (by decide +kernel) (pa_cons (pe_lc (own := [("_law_sign", 1)]) (g := gName 1) rfl sc__law_is_word.nd  (pi_str (pv 0)) (blkOk_by (own := [("_law_sign", 1)]) (N := ["_law_matter", "_law_sign"]) (sc := defScope s__law_is_word) (by decide +kernel)) (fun _ _ _ _ _ => (pg_name (i := 1) sc__law_is_word.nd rfl (Or.inl rfl))) (fun _ _ _ _ _ => pts_nil) (fun _ _ _ _ _ => (pe_cmpR op_in_sign (pv 1) pe_str (by rfl)))) pa_nil))))), ?_⟩
  have hcond : EvT z (tOr (tNot (tB (tCB (rIsi K) (tCons (tVar 0) (tCons (tC (.ty "str")) tNil)))))
      (tNot (tTest (tChain (rI0 fun i j => .bl (decide (i ≤ j))) (rI0 fun i j => .bl (decide (i ≤ j))) (tC (.int 1)) (tCB (fun xs H Q => ∃ y n, xs = [y] ∧ LenV K y H n ∧ Q (.int n) H) (tCons (tVar 0) tNil)) (tC (.int 8))))))
      (start ["_law_matter", "_law_sign"] [v]) H (· = !(match d with | .str x => decide (1 ≤ x.length) && decide (x.length ≤ 8) | _ => false)) := by
    by_cases hb : isStrD d = true
    · obtain ⟨x, rfl⟩ : ∃ x, d = .str x := by cases d <;> first | exact ⟨_, rfl⟩ | cases hb
      have ev : v = .str x := by cases hv; rfl
      subst ev
      have hx := hs x rfl
      refine et_to (et_or (et_not (et_B (ev_isi (ev_var rfl fun H' w => hv.w w) (kit_str _)))) fun _ => et_not (et_test (ev_chain ev_k (ev_lenS (ev_is rfl) (by omega)) (fun _ => ev_k) (fun H2 r2 => rn_i0 r2.dr) (fun H2 r2 => rn_i0 r2.dr)))) ?_
      simp only [isStrD, Bool.not_true, Bool.false_or]
      congr 2
      · exact decide_eq_decide.mpr (by omega)
      · exact decide_eq_decide.mpr (by omega)
    · have hb' : isStrD d = false := by simpa using hb
      refine et_to (et_or (b := true) (et_not (et_B (ev_isi (ev_var rfl fun H' w => hv.w w) (kit_str _)))) fun hc => ?_) ?_
      · rw [hb'] at hc; cases hc
      · rw [hb']
        cases d <;> first | rfl | cases hb'
  refine q_if (z := z) hz hcond (fun hb H1 r1 => ?_) (fun hb H1 r1 => ?_)
  · refine s_ret r1.dr ev_k fun v' H2 r2 f => ?_
    have e : v' = .bl false := f H2 .refl
    have e2 : isWordD d = false := by
      cases d <;> first | rfl | (show isW _ = false; unfold isW; simp only [Bool.not_eq_true'] at hb; rw [hb]; rfl)
    subst e
    rw [← e2]
    exact q H2 (r1.tr r2)
  · obtain ⟨x, rfl⟩ : ∃ x, d = .str x := by cases d <;> first | exact ⟨_, rfl⟩ | cases hb
    have ev : v = .str x := by cases hv; rfl
    subst ev
    have hx := hs x rfl
    refine s_ret r1.dr (ev_allS (g := fun c => decide (c ∈ ("abcdefghijklmnopqrstuvwxyz" : Str).cps.toList)) (ev_is rfl) (by omega) (fun _ => rfl) (fun c D H3 hc r3 => ev_inC (ev_is rfl) ev_k)) fun v' H3 r3 f => ?_
    have e := f H3 .refl
    subst e
    have e2 : isWordD (.str x) = x.cps.toList.all (fun c => decide (c ∈ ("abcdefghijklmnopqrstuvwxyz" : Str).cps.toList)) := by
      show isW x = _
      unfold isW
      simp only [Bool.not_eq_false'] at hb
      rw [hb, Bool.true_and]
      congr 1
      funext c
      exact low_in c
    rw [← e2]
    exact q H3 (r1.tr r3)

def badS (x : Str) : Bool := (!(!decide (x.length = 0))) || (decide ((8 : Int) < (x.length : Int)) || (!decide ((Txt.stripChars x "abcdefghijklmnopqrstuvwxyz").length = 0)))
theorem badS_is (x : Str) : badS x = !isW x := by
  unfold badS isW
  rw [strip_az, Bool.not_not]
  cases x.cps.toList.all low with
  | false => simp
  | true =>
    by_cases h0 : x.length = 0
    · rw [h0]; rfl
    · by_cases h8 : x.length ≤ 8
      · rw [decide_eq_false h0, decide_eq_true h8, decide_eq_true (show 1 ≤ x.length by omega), decide_eq_false (show ¬ (8 : Int) < (x.length : Int) by omega)]
        rfl
      · rw [decide_eq_false h0, decide_eq_false h8, decide_eq_true (show (8 : Int) < (x.length : Int) by omega), Bool.and_false]
        rfl
theorem ok_is_path (T : Tx mg tL t8 t6) (d_is_path : Df K mg "is_path" s_is_path ["thing"]) : FnOk P w K mg base CX0 2 d_is_path.f d_is_path.fd ["thing"] (spLook Tl isPathD) := by
  refine d_is_path.F.ok (k := 1) sc_is_path spLook_len (fun cdv A outer s H vs Q E hr h => ?_)
  obtain ⟨z, v, d, rfl, hz, hv, hs, q⟩ := h
  refine ⟨_, (pss_cons (ps_if (PW.pt (pw_or (pt_not (pt_val (pe_callB (k_isi (K := K)) (by rfl) T.isinstance (by decide +kernel) (pa_cons (pv 0) (pa_cons (pe_bltn (v := .ty "tuple") (by rfl) T.tuple (by decide +kernel) rfl) pa_nil))))) (pw_or1 (pt_cmpR op_gt (pe_callB (k_len (K := K)) (by rfl) T.len PySem.boot_len (pa_cons (pv 0) pa_nil)) (pe_glob (v := .int 6) (by rfl) T.c_MOST_NAMES ⟨_, rfl⟩) (nomark _)))))
    (pss_one (ps_ret pe_bl))
    pss_nil)
    (pss_cons (ps_for PassesOwn.never rfl (k_pit (K := K) (pi_tup (pv 0))) (pg_name (i := 1) sc_is_path.nd rfl (Or.inl rfl))
    (pss_one (ps_if (PW.pt (pw_or (pt_not (pt_val (pe_callB (k_isi (K := K)) (by rfl) T.isinstance (by decide +kernel) (pa_cons (pv 1) (pa_cons (pe_bltn (v := .ty "str") (by rfl) T.str (by decide +kernel) rfl) pa_nil))))) (pw_or (pt_not (pt_truth (pv 1) (by intro _; rfl))) (pw_or (pt_cmpR op_gt (pe_callB (k_len (K := K)) (by rfl) T.len PySem.boot_len (pa_cons (pv 1) pa_nil)) (pe_glob (v := .int 8) (by rfl) T.c_MOST_LETTERS ⟨_, rfl⟩) (nomark _)) (pw_or1 (pt_truth (pe_bm PySem.F.plainAttrs_str PySem.F.slot_str_strip PySem.F.type_str_strip mt_stripChars (pv 1) (pa_cons (pe_glob (v := .str "abcdefghijklmnopqrstuvwxyz") (by rfl) T.c_LETTERS ⟨_, rfl⟩) pa_nil)) (by intro _; rfl)))))))
    (pss_one (ps_ret pe_bl))
    pss_nil)))
    (pss_one (ps_ret pe_bl)))), ?_⟩
  by_cases ht : isTupD d = true
  · obtain ⟨ds, rfl⟩ : ∃ x, d = .tuple x := by cases d <;> first | exact ⟨_, rfl⟩ | cases ht
    obtain ⟨a, vs, rfl, nu, ha, hds⟩ := hv.tupAt
    have hlen := hds.len
    obtain ⟨hl, hx⟩ := hs ds rfl
    have no : ∀ {H2 : Hp} {σ' : L2.St} {N : L2.St → Hp → Prop} {N2 N3 : L2.St → Hp → Prop}, isPathD (.tuple ds) = false → z.R H H2 → tRet (tC (.bl false)) { nx := N, ct := N2, bk := N3, rt := Q } σ' H2 := fun e r => s_ret (z := z) r.dr ev_k fun v' H3 r3 f => by
      have e' : v' = .bl false := f H3 .refl
      subst e'
      show Q (.bl false) H3
      rw [← e]
      exact q H3 (r.tr r3)
    refine q_if (z := z) hz (et_or (et_not (et_B (ev_isi (ev_var rfl fun H' w => hv.w w) (kit_tup _)))) fun _ => et_test (ev_i0 (g := fun i j => .bl (decide (j < i))) (ev_lenT (ev_tupv rfl nu ha)) ev_k)) (fun hb H1 r1 => ?_) (fun hb H1 r1 => ?_)
    · refine no ?_ r1
      show (decide (ds.length ≤ 6) && _) = false
      rw [decide_eq_false fun h => ?_]
      · rfl
      · simp only [isTupD, Bool.not_true, Bool.false_or, decide_eq_true_eq] at hb
        omega
    have h6 : ds.length ≤ 6 := by
      simp only [isTupD, Bool.not_true, Bool.false_or, decide_eq_false_iff_not] at hb
      omega
    refine q_forT (z := z) (xs := vs) r1.dr (ev_tupv rfl nu (r1.w a _ nu ha)) fun H3 r3 => ?_
    have r13 := r1.tr r3
    have hds3 := hds.w r13.w
    refine ⟨fun i σ' H' => z.R H3 H' ∧ ∃ o, σ' = [some (.ref a), o] ∧ ds.all isWordD = (ds.drop i).all isWordD, ⟨r3.dr, none, rfl, rfl⟩, fun i σ' H' hP => hP.1.w, fun i x σ' H' hx' hP => ?_, fun σ' H' hP => ?_⟩
    · obtain ⟨r4, o, rfl, g⟩ := hP
      obtain ⟨d, hd, dv⟩ := (hds3.w r4.w).at hx'
      have hbd := hx d (List.mem_of_getElem? hd)
      rw [drop_at hd] at g
      have g' : ds.all isWordD = (isWordD d && (ds.drop (i + 1)).all isWordD) := g
      have bad : isWordD d = false → isPathD (.tuple ds) = false := fun e => by
        show (_ && ds.all isWordD) = false
        rw [g', e, Bool.false_and, Bool.and_false]
      by_cases hsd : isStrD d = true
      · obtain ⟨x, rfl⟩ : ∃ x, d = .str x := by cases d <;> first | exact ⟨_, rfl⟩ | cases hsd
        have ev := DU.strAt dv
        subst ev
        have hxl : x.length ≤ 1000 := hbd x rfl
        refine s_if (z := z) r4.dr (et_or (et_not (et_B (ev_isi (ev_var rfl fun H' w => dv.w w) (kit_str _)))) fun _ => et_or (et_not (et_txt (x := x) (ev_is rfl) (by omega))) fun _ => et_or (et_test (ev_i0 (g := fun i j => .bl (decide (j < i))) (ev_lenS (ev_is rfl) (by omega)) ev_k)) fun _ => et_txt (ev_strip (x := x) (ev_is rfl) ev_k (by omega)) (Nat.le_trans (len_stripChars _ _) (by omega))) (fun hb2 H5 r5 => ?_) (fun hb2 H5 r5 => ?_)
        · refine no (bad ?_) ((r13.tr r4).tr r5)
          have hb3 : badS x = true := hb2
          rw [badS_is, Bool.not_eq_true'] at hb3
          exact hb3
        · have hb3 : badS x = false := hb2
          rw [badS_is, Bool.not_eq_false'] at hb3
          refine ⟨r4.tr r5, _, rfl, ?_⟩
          rw [g']
          show (isW x && _) = _
          rw [hb3, Bool.true_and]
      · have hsd' : isStrD d = false := by simpa using hsd
        refine s_if (z := z) (b := true) r4.dr (et_to (et_or (b := true) (et_not (et_B (ev_isi (ev_var rfl fun H' w => dv.w w) (kit_str _)))) fun hc => ?_) ?_) (fun hb2 H5 r5 => ?_) (fun hb2 => (by cases hb2))
        · rw [hsd'] at hc; cases hc
        · rw [hsd']; rfl
        · exact no (bad (by cases d <;> first | rfl | cases hsd')) ((r13.tr r4).tr r5)
    · obtain ⟨r4, o, rfl, g⟩ := hP
      rw [hlen, List.drop_length] at g
      refine s_ret (z := z) r4.dr ev_k fun v' H5 r5 f => ?_
      have e : v' = .bl true := f H5 .refl
      subst e
      have e2 : isPathD (.tuple ds) = true := by
        show (decide (ds.length ≤ 6) && ds.all isWordD) = true
        rw [decide_eq_true h6, g]
        rfl
      rw [← e2]
      exact q H5 ((r13.tr r4).tr r5)
  · have ht' : isTupD d = false := by simpa using ht
    refine q_if (z := z) (b := true) hz (et_to (et_or (b := true) (et_not (et_B (ev_isi (ev_var rfl fun H' w => hv.w w) (kit_tup _)))) fun hc => ?_) ?_) (fun hb H1 r1 => ?_) (fun hb => (by cases hb))
    · rw [ht'] at hc; cases hc
    · rw [ht']; rfl
    · refine s_ret r1.dr ev_k fun v' H2 r2 f => ?_
      have e : v' = .bl false := f H2 .refl
      have e2 : isPathD d = false := by cases d <;> first | rfl | cases ht'
      subst e
      rw [← e2]
      exact q H2 (r1.tr r2)
theorem ok_law_is_path (T : Tx mg tL t8 t6) (d__law_is_path : Df K mg "_law_is_path" s__law_is_path ["_law_matter"]) (d__law_is_word : Df K mg "_law_is_word" s__law_is_word ["_law_matter"]) (G__law_is_word : FnOk P w K mg base CX0 1 d__law_is_word.f d__law_is_word.fd ["_law_matter"] (spLook Sl isWordD)) :
    FnOk P w K mg base CX0 2 d__law_is_path.f d__law_is_path.fd ["_law_matter"] (spLook Tl isPathD) := by
  refine d__law_is_path.F.ok sc__law_is_path spLook_len (fun cdv A outer s H vs Q E hr h => ?_)
  obtain ⟨z, v, d, rfl, hz, hv, hs, q⟩ := h
  refine ⟨_, (pss_one (ps_ret (pe_and (pe_callB (k_isi (K := K)) (by rfl) T.isinstance (by decide +kernel) (pa_cons (pv 0) (pa_cons (pe_bltn (v := .ty "tuple") (by rfl) T.tuple (by decide +kernel) rfl) pa_nil))) (pe_and (pe_cmpR op_lt (pe_callB (k_len (K := K)) (by rfl) T.len PySem.boot_len (pa_cons (pv 0) pa_nil)) pe_int (nomark _)) (pe_one (pe_callB (k_all (K := K)) (by rfl) T.all (by decide +kernel) (pa_cons (pe_lc (own := [("_law_name_here", 1)]) (g := gName 1) rfl sc__law_is_path.nd  (k_pit (K := K) (pi_tup (pv 0))) (blkOk_by (own := [("_law_name_here", 1)]) (N := ["_law_matter", "_law_name_here"]) (sc := defScope s__law_is_path) (by decide +kernel)) (fun _ _ _ _ _ => (pg_name (i := 1) sc__law_is_path.nd rfl (Or.inl rfl))) (fun _ _ _ _ _ => pts_nil) (fun _ _ _ _ _ => (pe_call G__law_is_word (hr.mono (by decide)) (by rfl) d__law_is_word.g d__law_is_word.F.kp d__law_is_word.b .nil pass0 (pa_cons (pv 1) pa_nil)))) pa_nil))))))), ?_⟩
  by_cases hb : isTupD d = true
  · obtain ⟨ds, rfl⟩ : ∃ x, d = .tuple x := by cases d <;> first | exact ⟨_, rfl⟩ | cases hb
    obtain ⟨a, vs, rfl, nu, ha, hds⟩ := hv.tupAt
    have hx := hs ds rfl
    have hlen := hds.len
    refine s_ret (z := z) hz (ev_and (ev_isi (ev_var rfl fun H' w => hv.w w) (kit_tup _)) fun _ => ev_and (ev_i0 (ev_lenT (ev_tupv rfl nu ha)) ev_k) fun _ => ev_allT (g := isWordV) (ev_tupv rfl nu ha) (by omega) (by intro _; rfl) fun v D H2 hm hD r2 r3 => ?_) fun v' H3 r3 f => ?_
    · obtain ⟨e, he, dv⟩ := hds.mem hm
      rw [dv.wordV]
      exact ev_look (ev_var rfl fun H' w => (dv.add hD r2.w).w w) (hx.2 e he)
    · have e := f H3 .refl
      subst e
      have e2 : isPathD (.tuple ds) = (isTupD (.tuple ds) && (decide ((vs.length : Int) < 7) && vs.all isWordV)) := by
        show (decide (ds.length ≤ 6) && ds.all isWordD) = (true && _)
        rw [all_of isWordV isWordD (fun v d h => h.wordV) hds, hlen, Bool.true_and]
        congr 1
        exact decide_eq_decide.mpr (by omega)
      rw [← e2]
      exact q H3 r3
  · have hb' : isTupD d = false := by simpa using hb
    refine s_ret (z := z) hz (ev_and (b := true) (ev_isi (ev_var rfl fun H' w => hv.w w) (kit_tup _)) fun hc => ?_) fun v' H3 r3 f => ?_
    · rw [hb'] at hc; cases hc
    · have e := f H3 .refl
      subst e
      have e2 : isPathD d = (isTupD d && true) := by cases d <;> first | rfl | cases hb'
      rw [← e2]
      exact q H3 r3

/-- what k01 looks at -/
structure Okd (d : PyData) : Prop where
  sm : Sm d
  sl : Sl d
  tl : Tl d
theorem ok_told (T : Tx mg tL t8 t6) (d__law_told : Df K mg "_law_told" s__law_told ["_law_matter"]) (d__law_is_word : Df K mg "_law_is_word" s__law_is_word ["_law_matter"]) (d__law_is_path : Df K mg "_law_is_path" s__law_is_path ["_law_matter"])
    (d_is_word : Df K mg "is_word" s_is_word ["thing"]) (d_is_path : Df K mg "is_path" s_is_path ["thing"]) (kb_is_word : KBn K d_is_word.fd ["thing"] 0 ["thing"] (fun _ ws => ws) (fun _ zs => zs)) (kb_is_path : KBn K d_is_path.fd ["thing"] 0 ["thing"] (fun _ ws => ws) (fun _ zs => zs))
    (G_is_word : FnOk P w K mg base CX0 1 d_is_word.f d_is_word.fd ["thing"] (spLook Sl isWordD)) (G_is_path : FnOk P w K mg base CX0 2 d_is_path.f d_is_path.fd ["thing"] (spLook Tl isPathD))
    (G__law_is_word : FnOk P w K mg base CX0 1 d__law_is_word.f d__law_is_word.fd ["_law_matter"] (spLook Sl isWordD)) (G__law_is_path : FnOk P w K mg base CX0 2 d__law_is_path.f d__law_is_path.fd ["_law_matter"] (spLook Tl isPathD)) :
    FnG P w K mg base CX0 3 d__law_told.f d__law_told.fd ["_law_matter"] (spLook Okd fun _ => true) := by
  refine fng_ok d__law_told.F sc__law_told spLook_len (fun cdv A outer s H vs Q E hg hr h => ?_)
  obtain ⟨z, v, d, rfl, hz, hv, ok, q⟩ := h
  refine ⟨_, (pss_cons (ps_set (i := 1) sc__law_told.nd rfl (.inl rfl) (pe_callB (call_rp hg hr.units) (by rfl) T.repr (by decide +kernel) (pa_cons (pv 0) pa_nil)))
    (pss_cons (ps_set (i := 2) sc__law_told.nd rfl (.inl rfl) (pe_lst (pa_cons (pe_call G__law_is_word (hr.mono (by decide)) (by rfl) d__law_is_word.g d__law_is_word.F.kp d__law_is_word.b .nil pass0 (pa_cons (pv 0) pa_nil)) (pa_cons (pe_call G__law_is_path (hr.mono (by decide)) (by rfl) d__law_is_path.g d__law_is_path.F.kp d__law_is_path.b .nil pass0 (pa_cons (pv 0) pa_nil)) pa_nil))))
    (pss_cons (ps_for PassesOwn.never rfl (k_pil (K := K) (pi_list (pe_lst (pa_cons (pe_lst (pa_cons (pe_call G_is_word (hr.mono (by decide)) (by rfl) d_is_word.g d_is_word.F.kp d_is_word.b .nil pass0 (pa_cons (pv 0) pa_nil)) (pa_cons (pe_call G_is_path (hr.mono (by decide)) (by rfl) d_is_path.g d_is_path.F.kp d_is_path.b .nil pass0 (pa_cons (pv 0) pa_nil)) pa_nil))) (pa_cons (pe_lst (pa_cons (pe_kw0 G_is_word (hr.mono (by decide)) (by rfl) d_is_word.g d_is_word.F.kp kb_is_word pass0 (pk_cons (pv 0) pk_nil)) (pa_cons (pe_kw0 G_is_path (hr.mono (by decide)) (by rfl) d_is_path.g d_is_path.F.kp kb_is_path pass0 (pk_cons (pv 0) pk_nil)) pa_nil))) pa_nil))))) (pg_name (i := 3) sc__law_told.nd rfl (Or.inl rfl))
    (pss_one (ps_if (PW.pt (pw_or (pt_not (pt_val (pe_callB (k_all (K := K)) (by rfl) T.all (by decide +kernel) (pa_cons (pe_lc (own := [("_law_one", 4)]) (g := gName 4) rfl sc__law_told.nd  (k_pil (K := K) (pi_list (pv 3))) (blkOk_by (own := [("_law_one", 4)]) (N := ["_law_matter", "_law_kept", "_law_due", "_law_told_here", "_law_one"]) (sc := defScope s__law_told) (by decide +kernel)) (fun _ _ _ _ _ => (pg_name (i := 4) sc__law_told.nd rfl (Or.inl rfl))) (fun _ _ _ _ _ => pts_nil) (fun _ _ _ _ _ => (pe_callB (k_isi (K := K)) (by rfl) T.isinstance (by decide +kernel) (pa_cons (pv 4) (pa_cons (pe_bltn (v := .ty "bool") (by rfl) T.bool (by decide +kernel) rfl) pa_nil))))) pa_nil)))) (pw_or1 (pt_cmpR (k_neD (K := K) hr.units) (pv 3) (pv 2) (nomark _)))))
    (pss_one (ps_ret pe_bl))
    pss_nil)))
    (pss_one (ps_ret (pe_cmpR op_eq (pe_callB (call_rp hg hr.units) (by rfl) T.repr (by decide +kernel) (pa_cons (pv 0) pa_nil)) (pv 1) (nomark _))))))), ?_⟩
  refine q_set (z := z) hz (ev_repr (ev_var rfl fun H' w => hv.w w) ok.sm) fun v1 H1 r1 f1 => ?_
  have e1 := f1 H1 .refl
  subst e1
  have hv1 := hv.w r1.w
  refine q_set (z := z) (φ := Lst z fun ws _ => ws = [isWordD d, isPathD d].map V.bl) r1.dr ?_ fun v2 H2 r2 f2 => ?_
  · exact ev_lst (ea_is (ev_look (ev_var rfl fun H' w => hv1.w w) ok.sl) (ea_is (ev_look (ev_var rfl fun H' w => hv1.w w) ok.tl) ea_nil)) fun vs H' e => by rw [e]; exact (show 2 ≤ 100000 by decide)
  have hv2 := hv1.w r2.w
  refine q_forL (z := z) (Φ := fun ws H' => ∃ x y, ws = [x, y] ∧ Lst z (fun us _ => us = [isWordD d, isPathD d].map V.bl) x H' ∧ Lst z (fun us _ => us = [isWordD d, isPathD d].map V.bl) y H') r2.dr ?_ fun ws H3 r3 hws => ?_
  · refine Ev.imp (ev_lst (ea_cons (φ := Lst z (fun us _ => us = [isWordD d, isPathD d].map V.bl)) ?_ fun x H3 r3 _ => ea_cons (φ := Lst z (fun us _ => us = [isWordD d, isPathD d].map V.bl)) ?_ fun y H4 r4 _ => ea_nil) ?_) ?_
    · exact ev_lst (ea_is (ev_look (ev_var rfl fun H' w => hv2.w w) ok.sl) (ea_is (ev_look (ev_var rfl fun H' w => hv2.w w) ok.tl) ea_nil)) fun vs H' e => by rw [e]; exact (show 2 ≤ 100000 by decide)
    · have hv3 := hv2.w r3.w
      exact ev_lst (ea_is (ev_lookK (ev_var rfl fun H' w => hv3.w w) ok.sl) (ea_is (ev_lookK (ev_var rfl fun H' w => hv3.w w) ok.tl) ea_nil)) fun vs H' e => by rw [e]; exact (show 2 ≤ 100000 by decide)
    · rintro vs H' ⟨x, r, rfl, _, y, r', rfl, _, rfl⟩
      exact (show 2 ≤ 100000 by decide)
    · rintro v' H' _ ⟨p, vs, ev, nu, hp, x, r, rfl, hx, y, r', rfl, hy, rfl⟩
      exact ⟨p, _, ev, nu, hp, x, y, rfl, hx, hy⟩
  obtain ⟨x, y, rfl, hx, hy⟩ := hws H3 .refl
  have hit : ∀ (i : Nat) (t : V), [x, y][i]? = some t → ∀ H', z.W H3 H' → Lst z (fun us _ => us = [isWordD d, isPathD d].map V.bl) t H' := by
    intro i t ht H' w
    obtain ⟨x', y', e, hx', hy'⟩ := hws H' w
    cases e
    match i, ht with
    | 0, ht => cases ht; exact hx'
    | 1, ht => cases ht; exact hy'
  have hv3 := hv2.w r3.w
  refine ⟨fun i σ' H' => z.R H3 H' ∧ ∃ o3, σ' = [some v, some (.str d.shown), some v2, o3, none], ⟨r3.dr, none, rfl⟩, fun i σ' H' hP => hP.1.w, fun i t σ' H' ht hP => ?_, fun σ' H' hP => ?_⟩
  · obtain ⟨r4, o3, rfl⟩ := hP
    have w4 : z.W H2 H' := (r3.tr r4).w
    refine s_if (z := z) (b := false) r4.dr ?_ (fun hb => by cases hb) fun _ H5 r5 => ⟨r4.tr r5, _, rfl⟩
    refine et_to (et_or (et_not (et_B (ev_allL (xs := [isWordD d, isPathD d].map V.bl) (g := fun v => match v with | .bl _ => true | _ => false) (ev_var rfl fun H' w => hit i t ht H' (r4.w.tr w)) ?_ (by intro _; rfl) ?_))) fun _ => et_test (ev_neBls (as := [isWordD d, isPathD d]) (bs := [isWordD d, isPathD d]) (ev_var rfl fun H' w => hit i t ht H' (r4.w.tr w)) (ev_var rfl fun H' w => f2 H' (w4.tr w)) ?_ ?_)) ?_
    · exact (show 2 ≤ 100000 by decide)
    · intro u D H6 hm hD r6 r7
      obtain ⟨b, hb, rfl⟩ := List.mem_map.mp hm
      exact ev_isi (d := .bool b) (ev_var rfl fun H' w => .bl b) (kit_bool _)
    · cases isWordD d <;> cases isPathD d <;> decide +kernel
    · cases isWordD d <;> cases isPathD d <;> decide +kernel
    · cases isWordD d <;> cases isPathD d <;> decide +kernel
  · obtain ⟨r4, o3, rfl⟩ := hP
    have hv4 := hv3.w r4.w
    refine s_ret (z := z) r4.dr (ev_eq (ev_repr (ev_var rfl fun H' w => hv4.w w) ok.sm) (ev_is rfl) rfl) fun v' H5 r5 f => ?_
    have e := f H5 .refl
    subst e
    rw [decide_eq_true rfl]
    exact q H5 ((((r1.tr r2).tr r3).tr r4).tr r5)
theorem cut_ints (ns : List Int) (lo hi : Option Int) : ∃ ms : List Int, cutV (ns.map V.int) lo hi = ms.map V.int := by
  unfold cutV
  exact ⟨((ns.drop (HT.sIx (ns.map V.int).length 0 lo)).take (HT.sIx (ns.map V.int).length (ns.map V.int).length hi - HT.sIx (ns.map V.int).length 0 lo)), by rw [List.map_take, List.map_drop]⟩
theorem ok_take (T : Tx mg tL t8 t6) (d__law_take : Df K mg "_law_take" s__law_take ["_law_purse_here", "_law_many"]) : FnOk P w K mg base CX0 1 d__law_take.f d__law_take.fd ["_law_purse_here", "_law_many"] spTake := by
  refine d__law_take.F.ok sc__law_take (fun vs H Q E ⟨_, _, _, e, _⟩ => by rw [e]; rfl) (fun cdv A outer s H vs Q E hr h => ?_)
  obtain ⟨z, u, n, rfl, hz, hu, hn0, hn1, q⟩ := h
  obtain ⟨o, ho, a, b, rfl, ha, hb, hb2⟩ := hz.i1 u _ hu
  refine ⟨_, (pss_cons (ps_if (pt_cmpR op_eq (pe_ix (k_ixl (K := K)) (pv 0) pe_int (fun _ _ => rfl)) pe_int (nomark _))
    (pss_cons (ps_set (i := 2) sc__law_take.nd rfl (.inl rfl) (pe_op op_mod (pe_ix (k_ixl (K := K)) (pv 0) pe_int (fun _ _ => rfl)) (pv 1)))
    (pss_cons (ps_asg (pe_op op_fdivW (pe_ix (k_ixl (K := K)) (pv 0) pe_int (fun _ _ => rfl)) (pv 1)) (pg_sub (pv 0) pe_int set_list))
    (pss_one (ps_ret (pv 2)))))
    pss_nil)
    (pss_cons (ps_asg (pe_op op_add pe_int (pe_op op_mod (pe_op op_add (pe_op op_mul (pe_ix (k_ixl (K := K)) (pv 0) pe_int (fun _ _ => rfl)) pe_int) pe_int) pe_int)) (pg_sub (pv 0) pe_int set_list))
    (pss_one (ps_ret (pe_op op_mod (pe_op op_fdivW (pe_op op_mod (pe_op op_mul (pe_ix (k_ixl (K := K)) (pv 0) pe_int (fun _ _ => rfl)) pe_int) pe_int) pe_int) (pv 1)))))), ?_⟩
  have nu : ¬ z0.U u := fun f => f
  have hn2 : (n : Int) ≤ 1000000 := by omega
  have hn3 : (0 : Int) < (n : Int) := by omega
  have hdv : CDivW a (n : Int) := wide_div (b := 20) hn3 (by rw [Int.natAbs_natCast]; exact Nat.lt_of_le_of_lt hn1 (by decide)) (by decide) (by decide)
  have i0 : ∀ {H' : Hp}, z0.R H H' → Ev z0 (tOp (rIxL K) (tVar 0) (tC (.int 0))) (start ["_law_purse_here", "_law_many", "_law_found"] [.ref u, .int (n : Int)]) H' (Is (.int a)) := fun r => ev_ixL (i := 0) (ev_is rfl) ev_k nu (z0g r u _ ho) rfl
  have i1 : ∀ {H' : Hp}, z0.R H H' → Ev z0 (tOp (rIxL K) (tVar 0) (tC (.int 1))) (start ["_law_purse_here", "_law_many", "_law_found"] [.ref u, .int (n : Int)]) H' (Is (.int b)) := fun r => ev_ixL (i := 1) (ev_is rfl) ev_k nu (z0g r u _ ho) rfl
  refine q_if (z := z0) z0r (et_test (ev_eq (i1 z0r) ev_k rfl)) (fun hc H1 r1 => ?_) (fun hc H1 r1 => ?_)
  · refine q_set (z := z0) z0r (ev_i (i0 r1) (ev_is rfl) hn3) fun v1 H2 r2 f2 => ?_
    have e2 := f2 H2 .refl
    subst e2
    have r12 := r1.tr r2
    refine q_sub (z := z0) (j := 0) (p := u) z0r (ev_i (ev_ixL (i := 0) (p := u) (ev_is rfl) ev_k nu (z0g r12 u _ ho) rfl) (ev_is rfl) hdv) (ev_is rfl) ev_k nu (z0g r12 u _ ho) (show 0 < 2 by decide) fun H3 r3 => ?_
    have r13 := r12.tr r3
    have rz : z.R H (upd H3 u (.lst ([V.int a, V.int b].set 0 (V.int (a / (n : Int)))))) := (Zn.R.z0 r13 hz).wr hu ⟨a / n, b, rfl, Int.ediv_nonneg ha (by omega), hb, hb2⟩
    refine s_ret (z := z0) z0r (ev_is rfl) fun v4 H4 r4 f4 => ?_
    have e4 := f4 H4 .refl
    subst e4
    have h1 : 0 ≤ a % (n : Int) := Int.emod_nonneg _ (by omega)
    have h2 : a % (n : Int) < n := Int.emod_lt_of_pos _ hn3
    have e5 : a % (n : Int) = ((a % (n : Int)).toNat : Int) := by omega
    show Q (.int (a % (n : Int))) H4
    rw [e5]
    exact q _ H4 (by omega) (rz.tr (Zn.R.z0 r4 rz.dr))
  · have hm1 : CMul b 39373 := .inl ⟨by omega, by omega⟩
    refine q_sub (z := z0) (j := 1) (p := u) (v := .int (1 + (b * 39373 + 7919) % 2147483587)) z0r (ev_i0 (g := fun i j => .int (i + j)) ev_k (ev_i (C := fun _ j => 0 < j) (g := fun i j => .int (i % j)) (ev_i0 (g := fun i j => .int (i + j)) (ev_i (C := CMul) (g := fun i j => .int (i * j)) (i1 r1) ev_k hm1) ev_k) ev_k (by decide))) (ev_is rfl) ev_k nu (z0g r1 u _ ho) (show 1 < 2 by decide) fun H3 r3 => ?_
    have r13 := r1.tr r3
    have g1 : 0 ≤ (b * 39373 + 7919) % 2147483587 := Int.emod_nonneg _ (by decide)
    have g2 : (b * 39373 + 7919) % 2147483587 < 2147483587 := Int.emod_lt_of_pos _ (by decide)
    generalize hcc : 1 + (b * 39373 + 7919) % 2147483587 = c at *
    have rz : z.R H (upd H3 u (.lst ([V.int a, V.int b].set 1 (V.int c)))) := (Zn.R.z0 r13 hz).wr hu ⟨a, c, rfl, ha, by omega, by omega⟩
    have hm2 : CMul c 30269 := .inl ⟨by omega, by omega⟩
    refine s_ret (z := z0) z0r (ev_i (C := fun _ j => 0 < j) (g := fun i j => .int (i % j)) (ev_i (C := CDivW) (g := fun i j => .int (i / j)) (ev_i (C := fun _ j => 0 < j) (g := fun i j => .int (i % j)) (ev_i (C := CMul) (g := fun i j => .int (i * j)) (ev_ixL (i := 1) (p := u) (ev_is rfl) ev_k nu upd_same rfl) ev_k hm2) ev_k (by decide)) ev_k (wide_div (b := 20) (by decide) (by decide) (by decide) (by decide))) (ev_is rfl) hn3) fun v4 H4 r4 f4 => ?_
    have e4 := f4 H4 .refl
    subst e4
    generalize c * 30269 % 2147483563 / 11 = d
    have h1 : 0 ≤ d % (n : Int) := Int.emod_nonneg _ (by omega)
    have h2 : d % (n : Int) < n := Int.emod_lt_of_pos _ hn3
    have e5 : d % (n : Int) = ((d % (n : Int)).toNat : Int) := by omega
    rw [e5]
    exact q _ H4 (by omega) (rz.tr (Zn.R.z0 r4 rz.dr))
theorem ok_purse (T : Tx mg tL t8 t6) (d__law_purse : Df K mg "_law_purse" s__law_purse ["_law_script", "_law_k"]) : FnOk P w K mg base CX0 1 d__law_purse.f d__law_purse.fd ["_law_script", "_law_k"] (spPurse K) := by
  refine d__law_purse.F.ok sc__law_purse (fun vs H Q E ⟨_, _, _, _, e, _⟩ => by rw [e]; rfl) (fun cdv A outer s H vs Q E hr h => ?_)
  obtain ⟨z, a, ns, k, rfl, hz, hS, hl, hk, q⟩ := h
  refine ⟨_, (pss_cons (ps_set (i := 2) sc__law_purse.nd rfl (.inl rfl) (pe_ix (k_ixl (K := K)) (pe_op op_cat (pe_slice (k_sll (K := K)) (pv 0) (po_some (pv 1)) (po_some (pe_op op_add (pv 1) pe_int))) (pe_lst (pa_cons pe_int pa_nil))) pe_int (fun _ _ => rfl)))
    (pss_cons (ps_if (PW.pt (pw_or (pt_cmpR op_ge (pv 2) (pe_op op_pow pe_int pe_int) (nomark _)) (pw_or1 (pt_cmpR op_lt (pv 2) pe_int (nomark _)))))
    (pss_one (ps_ret (pe_lst (pa_cons (pe_callB (call_max2 rfl) (by rfl) T.max (by decide +kernel) (pa_cons (pv 2) (pa_cons (pe_op op_sub (pe_un un_neg pe_int) (pv 2)) pa_nil))) (pa_cons pe_int pa_nil)))))
    pss_nil)
    (pss_one (ps_ret (pe_lst (pa_cons pe_int (pa_cons (pe_op op_add pe_int (pe_op op_mod (pe_op op_add (pe_op op_mul (pv 2) pe_int) (pe_op op_mul (pe_op op_mul (pe_op op_add (pv 1) pe_int) pe_int) (pe_op op_add (pv 1) pe_int))) pe_int)) pa_nil))))))), ?_⟩
  have hSz : ∀ {H' : Hp}, z0.W H H' → SqL K H' a (ns.map V.int) := fun w => by
    rcases hS with (h | ⟨o, h⟩) | h
    · exact .inl (.inl (z0w w a _ h))
    · exact .inl (.inr ⟨o, z0w w a _ h⟩)
    · exact .inr h
  obtain ⟨ms, hms⟩ := cut_ints ns (some (k : Int)) (some ((k : Int) + 1))
  have hml : ms.length ≤ 1000 := by
    have h1 := congrArg List.length hms
    rw [List.length_map] at h1
    have h2 := cutV_length (ns.map V.int) (some (k : Int)) (some ((k : Int) + 1))
    rw [List.length_map] at h2
    omega
  have hcell : Ev z0 (tOp (rIxL K) (tOp rCat (L2.tSl (rSlL K) (tVar 0) (tPart (tVar 1)) (tPart (tOp (rI0 fun i j => .int (i + j)) (tVar 1) (tC (.int 1))))) (tLst (tCons (tC (.int 0)) tNil))) (tC (.int 0)))
      (start ["_law_script", "_law_k", "_law_cell"] [.ref a, .int (k : Int)]) H (Is (.int ((ms ++ [0]).getD 0 0))) := by
    refine ev_ixl (Φ := fun ws _ => ws = (ms ++ [0]).map V.int) (ψ := Is (.int 0)) ?_ (fun _ H1 r => ev_k) fun ws y H1 r e1 e2 => ⟨0, V.int ((ms ++ [0]).getD 0 0), e2, ?_, by intro _ _; exact rfl⟩
    · refine ev_op (φ := Lst z0 fun ws _ => ws = ms.map V.int) (ψ := Lst z0 fun ws _ => ws = [V.int 0]) ?_ (fun x H1 r fx => ?_) fun x y H1 r ⟨p, ws, e1, n1, h1, e2⟩ ⟨p', ws', e1', n1', h1', e2'⟩ => ?_
      · refine ev_sl (φ := Is (.ref a)) (ev_is rfl) (eo_some (ev_is rfl)) (eo_some (ev_i0 (g := fun i j => .int (i + j)) (ev_is rfl) ev_k)) fun x H1 r e Q0 q0 => ⟨a, _, e, hSz r.w, fun p hp => q0 _ _ (r.dr.new hp) fun H3 w => ⟨p, _, rfl, fun f => f, w p _ (fun f => f) upd_same, hms⟩⟩
      · exact ev_lst (ea_is ev_k ea_nil) fun vs H' e => by rw [e]; exact (show 1 ≤ 100000 by decide)
      · intro Q0 q0
        subst e2
        subst e2'
        exact ⟨p, p', _, _, e1, e1', h1, h1', by rw [List.length_map]; exact Nat.le_trans (show ms.length + 1 ≤ 2000 by omega) (by decide), fun d hd => q0 _ _ (r.dr.new hd) fun H3 w => ⟨d, _, rfl, fun f => f, w d _ (fun f => f) upd_same, by rw [List.map_append]; rfl⟩⟩
    · rw [e1]
      cases ms with
      | nil => rfl
      | cons x r => rfl
  generalize (ms ++ [0]).getD 0 0 = cell at hcell
  refine q_set (z := z0) z0r hcell fun v1 H1 r1 f1 => ?_
  have e1 := f1 H1 .refl
  subst e1
  refine q_if (z := z0) z0r (et_or (et_test (ev_i0 (g := fun i j => .bl (decide (j ≤ i))) (ev_is rfl) (ev_i (C := CPow) (g := fun i j => .int (i ^ j.toNat)) ev_k ev_k ⟨by decide, by decide, by decide⟩))) fun _ => et_test (ev_i0 (g := fun i j => .bl (decide (i < j))) (ev_is rfl) ev_k)) (fun hc H2 r2 => ?_) (fun hc H2 r2 => ?_)
  · have r02 := r1.tr r2
    have hz2 := zfr r02
    refine s_ret (z := zf H) (φ := Lst (zf H) fun ws _ => ws = [V.int (if -1 - cell > cell then -1 - cell else cell), V.int 0]) hz2 ?_ fun v3 H3 r3 f3 => ?_
    · refine ev_lst (ea_is ?_ (ea_is ev_k ea_nil)) fun vs H' e => by rw [e]; exact (show 2 ≤ 100000 by decide)
      exact ev_cb (ea_is (v := .int cell) (ev_is rfl) (ea_is (v := .int (-1 - cell)) (ev_i0 (g := fun i j => .int (i - j)) (ev_un (φ := Is (.int 1)) ev_k fun x H' r e Q0 q0 => ⟨1, e, q0 _ _ r.dr fun _ _ => rfl⟩) (ev_is rfl)) ea_nil)) fun vs H' r e Q0 q0 => ⟨cell, -1 - cell, e, q0 _ _ r.dr fun _ _ => rfl⟩
    · obtain ⟨p, ws, rfl, hn, hp, rfl⟩ := f3 H3 .refl
      have hn0 : H p = none := Classical.byContradiction hn
      refine q p _ H3 (Zn.R.z0 (r02.tr (zf0 r3)) hz) hn0 (hz.nu hn0) hp ⟨_, 0, rfl, ?_, by decide, by decide⟩
      simp only [Bool.or_eq_true, decide_eq_true_eq] at hc
      have h18 : (10 : Int) ^ (18 : Int).toNat = 1000000000000000000 := by decide
      rw [h18] at hc
      split <;> omega
  · have r02 := r1.tr r2
    have hz2 := zfr r02
    simp only [Bool.or_eq_false_iff, decide_eq_false_iff_not] at hc
    have h18 : (10 : Int) ^ (18 : Int).toNat = 1000000000000000000 := by decide
    rw [h18] at hc
    have hk2 : (k : Int) ≤ 1000 := by omega
    refine s_ret (z := zf H) (φ := Lst (zf H) fun ws _ => ws = [V.int 0, V.int (1 + (cell * 48271 + ((k : Int) + 1) * 69621 * ((k : Int) + 7)) % 2147483629)]) hz2 ?_ fun v3 H3 r3 f3 => ?_
    · refine ev_lst (ea_is ev_k (ea_is ?_ ea_nil)) fun vs H' e => by rw [e]; exact (show 2 ≤ 100000 by decide)
      have c1 : CMul cell 48271 := .inr ⟨by decide, by decide⟩
      have c2 : CMul ((k : Int) + 1) 69621 := .inr ⟨by decide, by decide⟩
      have c3 : CMul (((k : Int) + 1) * 69621) ((k : Int) + 7) := .inr ⟨by omega, by omega⟩
      exact ev_i0 (g := fun i j => .int (i + j)) ev_k (ev_i (C := fun _ j => 0 < j) (g := fun i j => .int (i % j)) (ev_i0 (g := fun i j => .int (i + j)) (ev_i (C := CMul) (g := fun i j => .int (i * j)) (ev_is rfl) ev_k c1)
        (ev_i (C := CMul) (g := fun i j => .int (i * j)) (ev_i (C := CMul) (g := fun i j => .int (i * j)) (ev_i0 (g := fun i j => .int (i + j)) (ev_is rfl) ev_k) ev_k c2) (ev_i0 (g := fun i j => .int (i + j)) (ev_is rfl) ev_k) c3)) ev_k (by decide))
    · obtain ⟨p, ws, rfl, hn, hp, rfl⟩ := f3 H3 .refl
      have hn0 : H p = none := Classical.byContradiction hn
      have g1 := Int.emod_nonneg (cell * 48271 + ((k : Int) + 1) * 69621 * ((k : Int) + 7)) (show (2147483629 : Int) ≠ 0 by decide)
      have g2 := Int.emod_lt_of_pos (cell * 48271 + ((k : Int) + 1) * 69621 * ((k : Int) + 7)) (show (0 : Int) < 2147483629 by decide)
      generalize (cell * 48271 + ((k : Int) + 1) * 69621 * ((k : Int) + 7)) % 2147483629 = m at *
      exact q p _ H3 (Zn.R.z0 (r02.tr (zf0 r3)) hz) hn0 (hz.nu hn0) hp ⟨0, _, rfl, by decide, by omega, by omega⟩
end
end K01

set_option Elab.async false
set_option linter.all false
set_option maxRecDepth 100000
set_option maxHeartbeats 4000000
namespace K01
open PySem PySem.Spec PyProof.Rows L2 FB
section
variable {P : Program} {w : World} {K : PySem.W.Frag} {mg : Str → Option Value} {base : Heap} {tL t8 t6 : Tok}
/-- the words of the menu -/
def some10 : List Str := ["root", "read", "folder", "end", "none", "told", "a", "rw", "straight", "straights"]
theorem some10_ok : ∀ x ∈ some10, Txs 9 x := by
  intro x hx
  simp only [some10, List.mem_cons, List.not_mem_nil, or_false] at hx
  rcases hx with rfl | rfl | rfl | rfl | rfl | rfl | rfl | rfl | rfl | rfl <;> exact ⟨by decide +kernel, by decide +kernel⟩
theorem az_ok : ∀ c ∈ ("abcdefghijklmnopqrstuvwxyz" : Str).cps.toList, c < 1000 := by decide +kernel
theorem ok_name (T : Tx mg tL t8 t6) (d__law_name : Df K mg "_law_name" s__law_name ["_law_purse_here"]) (d__law_take : Df K mg "_law_take" s__law_take ["_law_purse_here", "_law_many"])
    (G__law_take : FnOk P w K mg base CX0 1 d__law_take.f d__law_take.fd ["_law_purse_here", "_law_many"] spTake) : FnOk P w K mg base CX0 2 d__law_name.f d__law_name.fd ["_law_purse_here"] (spTxt 9) := by
  refine d__law_name.F.ok sc__law_name (fun vs H Q E ⟨_, _, e, _⟩ => by rw [e]; rfl) (fun cdv A outer s H vs Q E hr h => ?_)
  obtain ⟨z, u, rfl, hz, hu, q⟩ := h
  refine ⟨_, (pss_cons (ps_set (i := 1) sc__law_name.nd rfl (.inl rfl) (pe_lst (pa_cons pe_str (pa_cons pe_str (pa_cons pe_str (pa_cons pe_str (pa_cons pe_str (pa_cons pe_str (pa_cons pe_str (pa_cons pe_str (pa_cons pe_str (pa_cons pe_str pa_nil))))))))))))
    (pss_cons (ps_setLc (i := 2) (own := [("_law_turn", 3)]) (g := gName 3) rfl sc__law_name.nd rfl rfl (sw_true rfl rfl rfl (by decide +kernel)) (pi_range1 (by rfl) T.range (pa_cons (pe_op op_add pe_int (pe_call G__law_take (hr.mono (by decide)) (by rfl) d__law_take.g d__law_take.F.kp d__law_take.b .nil pass0 (pa_cons (pv 0) (pa_cons pe_int pa_nil)))) pa_nil)) (blkOk_by (own := [("_law_turn", 3)]) (N := ["_law_purse_here", "_law_some", "_law_letters", "_law_turn", "_law_own", "_law_letter"]) (sc := defScope s__law_name) (by decide +kernel)) (fun _ _ _ _ _ => (pg_name (i := 3) sc__law_name.nd rfl (Or.inl rfl))) (fun _ _ _ _ _ => pts_nil) (fun _ _ _ _ _ => (pe_call G__law_take (hr.mono (by decide)) (by rfl) d__law_take.g d__law_take.F.kp d__law_take.b .nil pass0 (pa_cons (pv 0) (pa_cons pe_int pa_nil)))))
    (pss_cons (ps_set (i := 4) sc__law_name.nd rfl (.inl rfl) (pe_join pe_str (pe_lc (own := [("_law_letter", 5)]) (g := gName 5) rfl sc__law_name.nd  (k_pil (K := K) (pi_list (pv 2))) (blkOk_by (own := [("_law_letter", 5)]) (N := ["_law_purse_here", "_law_some", "_law_letters", "_law_turn", "_law_own", "_law_letter"]) (sc := defScope s__law_name) (by decide +kernel)) (fun _ _ _ _ _ => (pg_name (i := 5) sc__law_name.nd rfl (Or.inl rfl))) (fun _ _ _ _ _ => pts_nil) (fun _ _ _ _ _ => (pe_ix ix_str pe_str (pv 5) (fun _ _ => rfl))))))
    (pss_one (ps_ret (pe_ix (k_ixl (K := K)) (pe_lst (pa_cons (pv 4) (pa_cons (pv 4) (pa_cons (pe_ix (k_ixl (K := K)) (pv 1) (pe_call G__law_take (hr.mono (by decide)) (by rfl) d__law_take.g d__law_take.F.kp d__law_take.b .nil pass0 (pa_cons (pv 0) (pa_cons pe_int pa_nil))) (fun _ _ => rfl)) pa_nil)))) (pe_call G__law_take (hr.mono (by decide)) (by rfl) d__law_take.g d__law_take.F.kp d__law_take.b .nil pass0 (pa_cons (pv 0) (pa_cons pe_int pa_nil))) (fun _ _ => rfl))))))), ?_⟩
  refine q_set (z := z) (φ := Lst z fun ws _ => ws = some10.map V.str) hz ?_ fun v1 H1 r1 f1 => ?_
  · exact ev_lst (ea_is ev_k (ea_is ev_k (ea_is ev_k (ea_is ev_k (ea_is ev_k (ea_is ev_k (ea_is ev_k (ea_is ev_k (ea_is ev_k (ea_is ev_k ea_nil)))))))))) fun vs H' e => by rw [e]; exact (show 10 ≤ 100000 by decide)
  refine q_set (z := z) (φ := Lst z fun ws H' => (1 ≤ ws.length ∧ ws.length ≤ 9) ∧ ∀ (i : Nat) w, ws[i]? = some w → Nn 26 w H') r1.dr ?_ fun v2 H2 r2 f2 => ?_
  · refine ev_lc (P := fun n => 1 ≤ n ∧ n ≤ 9) (φ := fun _ => Nn 26) (ei_rangeP ?_) (fun n h => by omega) (by intro _; rfl) fun n i x D H2 hn hi hx hD r2 rD => ?_
    · refine EvA.imp (ea_cons (φ := fun v _ => ∃ n : Nat, v = .int (n : Int) ∧ 1 ≤ n ∧ n ≤ 9) (ev_op (φ := Is (.int 1)) (ψ := Nn 9) ev_k (fun _ H2 r2 _ => ev_take hu (ev_is rfl) ev_k (by decide) (by decide)) fun x y H2 r2 e1 ⟨i, e2, hi⟩ => rn_val r2.dr (fun Q0 q0 => ⟨1, (i : Int), e1, e2, q0⟩) fun _ _ => ⟨1 + i, by rw [Int.natCast_add]; rfl, by omega, by omega⟩) fun v H2 r2 _ => ea_nil) ?_
      rintro vs H' _ ⟨v, r, rfl, ⟨n, rfl, h1, h2⟩, rfl⟩
      exact ⟨n, rfl, by omega, h1, h2⟩
    · exact ev_take (z := z.add D) hu (ev_is rfl) ev_k (by decide) (by decide)
  obtain ⟨p2, ws2, rfl, nu2, hp2, hw2⟩ := Lst.at f2
  refine q_set (z := z) (φ := Sv 9) r2.dr ?_ fun v3 H3 r3 f3 => ?_
  · refine ev_joinSv ev_k ?_ (by decide)
    have hl := hw2 H2 .refl
    refine (ev_lc (P := (· = ws2.length)) (φ := fun _ => Sv 1) (ei_lst (K := K) (ev_lstv rfl nu2 hp2 .refl)) (fun n h => by omega) (by intro _; rfl) fun n i x D H3 hn hi hx hD r3 rD => ?_).imp ?_
    · obtain ⟨j, rfl, hj⟩ := hl.2 i x hx
      exact ev_ixSv (n := 26) ev_k (ev_var rfl fun _ _ => ⟨j, rfl, hj⟩) (by decide) (by decide) az_ok
    · rintro v H' _ ⟨p, ws, e, nu, hp, h1, h2⟩
      exact ⟨p, ws, e, nu, hp, by omega, h2⟩
  obtain ⟨x3, rfl, hx3⟩ := f3 H3 .refl
  obtain ⟨p1, ws1, rfl, nu1, hp1, hw1⟩ := Lst.at f1
  have hws1 := hw1 H1 .refl
  subst hws1
  refine s_ret (z := z) (φ := Sv 9) r3.dr ?_ fun v4 H4 r4 f4 => ?_
  · refine ev_menu (n := 3) (Φ := fun ws H' => ∃ a b c, ws = [a, b, c] ∧ Sv 9 a H' ∧ Sv 9 b H' ∧ Sv 9 c H') (Ev.imp (ev_lst (ea_cons (φ := Sv 9) (ev_var rfl fun _ _ => ⟨x3, rfl, hx3⟩) fun a H4 r4 _ => ea_cons (φ := Sv 9) (ev_var rfl fun _ _ => ⟨x3, rfl, hx3⟩) fun b H5 r5 _ => ea_cons (φ := Sv 9)
      (ev_menuV (ws := some10.map V.str) (n := 10) (ev_lstv rfl nu1 hp1 ((((r2.tr r3).tr r4).tr r5).w)) (fun x H6 r6 => ev_take hu (ev_is rfl) ev_k (by decide) (by decide)) rfl fun H6 w _ hw => ?_) fun c H6 r6 _ => ea_nil) ?_) ?_) (fun x H4 r4 => ev_take hu (ev_is rfl) ev_k (by decide) (by decide)) ?_
    · obtain ⟨x, hx, rfl⟩ := List.mem_map.mp hw
      exact ⟨x, rfl, some10_ok x hx⟩
    · rintro vs H' ⟨a, r, rfl, _, b, r', rfl, _, c, r'', rfl, _, rfl⟩
      exact (show 3 ≤ 100000 by decide)
    · rintro v H' _ ⟨p, vs, e, nu, hp, a, r, rfl, ha, b, r', rfl, hb, c, r'', rfl, hc, rfl⟩
      exact ⟨p, _, e, nu, hp, a, b, c, rfl, ha, hb, hc⟩
    · rintro ws H' _ ⟨a, b, c, rfl, ha, hb, hc⟩
      refine ⟨rfl, fun w hw => ?_⟩
      rcases List.mem_cons.mp hw with rfl | hw
      · exact ha
      rcases List.mem_cons.mp hw with rfl | hw
      · exact hb
      rcases List.mem_cons.mp hw with rfl | hw
      · exact hc
      cases hw
  obtain ⟨x4, rfl, hx4⟩ := f4 H4 .refl
  exact q x4 H4 hx4 (((r1.tr r2).tr r3).tr r4)

def signs18 : Str := "ABZ019 \n-_./!{~a'\""
theorem signs18_len : signs18.length = 18 := by decide +kernel
theorem signs18_ok : ∀ c ∈ signs18.cps.toList, c < 1000 := by decide +kernel
theorem ok_bent (T : Tx mg tL t8 t6) (d__law_bent : Df K mg "_law_bent" s__law_bent ["_law_purse_here", "_law_name_here"]) (d__law_take : Df K mg "_law_take" s__law_take ["_law_purse_here", "_law_many"])
    (G__law_take : FnOk P w K mg base CX0 1 d__law_take.f d__law_take.fd ["_law_purse_here", "_law_many"] spTake) : FnOk P w K mg base CX0 2 d__law_bent.f d__law_bent.fd ["_law_purse_here", "_law_name_here"] (spTxt2 9 19) := by
  refine d__law_bent.F.ok sc__law_bent (fun vs H Q E ⟨_, _, _, e, _⟩ => by rw [e]; rfl) (fun cdv A outer s H vs Q E hr h => ?_)
  obtain ⟨z, u, x, rfl, hx, hz, hu, q⟩ := h
  refine ⟨_, (pss_cons (ps_par (i := 2) (j := 3) (by rfl) sc__law_bent.nd rfl rfl (by decide) rfl rfl (pa_cons (pe_call G__law_take (hr.mono (by decide)) (by rfl) d__law_take.g d__law_take.F.kp d__law_take.b .nil pass0 (pa_cons (pv 0) (pa_cons (pe_op op_add (pe_callB (k_len (K := K)) (by rfl) T.len PySem.boot_len (pa_cons (pv 1) pa_nil)) pe_int) pa_nil))) (pa_cons (pe_call G__law_take (hr.mono (by decide)) (by rfl) d__law_take.g d__law_take.F.kp d__law_take.b .nil pass0 (pa_cons (pv 0) (pa_cons pe_int pa_nil))) pa_nil)) (by rfl))
    (pss_cons (ps_set (i := 4) sc__law_bent.nd rfl (.inl rfl) pe_str)
    (pss_cons (ps_set (i := 5) sc__law_bent.nd rfl (.inl rfl) (pe_ix ix_str (pv 4) (pe_call G__law_take (hr.mono (by decide)) (by rfl) d__law_take.g d__law_take.F.kp d__law_take.b .nil pass0 (pa_cons (pv 0) (pa_cons (pe_callB (k_len (K := K)) (by rfl) T.len PySem.boot_len (pa_cons (pv 4) pa_nil)) pa_nil))) (fun _ _ => rfl)))
    (pss_one (ps_ret (pe_ix (k_ixl (K := K)) (pe_lst (pa_cons (pe_op op_add_str (pe_op op_add_str (pe_slice sl_str (pv 1) po_none (po_some (pv 2))) (pv 5)) (pe_slice sl_str (pv 1) (po_some (pe_op op_add (pv 2) pe_int)) po_none)) (pa_cons (pe_op op_add_str (pe_op op_add_str (pe_slice sl_str (pv 1) po_none (po_some (pv 2))) (pv 5)) (pe_slice sl_str (pv 1) (po_some (pv 2)) po_none)) (pa_cons (pe_op op_add_str (pe_slice sl_str (pv 1) po_none (po_some (pv 2))) (pe_slice sl_str (pv 1) (po_some (pe_op op_add (pv 2) pe_int)) po_none)) pa_nil)))) (pv 3) (fun _ _ => rfl))))))), ?_⟩
  have hxl := hx.1
  refine q_par (z := z) (Φ := fun v w _ => Nn (x.length + 1) v H ∧ Nn 3 w H) hz ?_ fun v1 v2 H1 r1 f1 => ?_
  · refine EvA.imp (ea_cons (φ := Nn (x.length + 1)) (ev_take hu (ev_is rfl) (ev_to (ev_i0 (g := fun i j => .int (i + j)) (ev_lenS (ev_is rfl) (by omega)) ev_k) rfl) (by omega) (by omega)) fun v H1 r1 _ => ea_cons (φ := Nn 3) (ev_take hu (ev_is rfl) ev_k (by decide) (by decide)) fun v H2 r2 _ => ea_nil) ?_
    rintro vs H' _ ⟨a, r, rfl, ha, b, r', rfl, hb, rfl⟩
    exact ⟨a, b, rfl, ha, hb⟩
  obtain ⟨⟨at', rfl, hat⟩, ⟨way, rfl, hway⟩⟩ := f1 H1 .refl
  refine q_set (z := z) r1.dr (ev_k (v := .str signs18)) fun v3 H3 r3 f3 => ?_
  have e3 := f3 H3 .refl
  subst e3
  refine q_set (z := z) (φ := Sv 1) r3.dr (ev_ixSv (n := 18) (x := signs18) (ev_is rfl) (ev_take hu (ev_is rfl) (ev_to (ev_lenS (x := signs18) (ev_is rfl) (by decide +kernel)) (by rw [signs18_len])) (by decide) (by decide)) signs18_len (by decide) signs18_ok) fun v4 H4 r4 f4 => ?_
  obtain ⟨y, rfl, hy⟩ := f4 H4 .refl
  refine s_ret (z := z) (φ := Sv 19) r4.dr ?_ fun v5 H5 r5 f5 => ?_
  · have a1 : ∀ {H' : Hp}, Ev z (L2.tSl rSlS (tVar 1) tNoPart (tPart (tVar 2))) [some (V.ref u), some (.str x), some (.int (at' : Int)), some (.int (way : Int)), some (.str signs18), some (.str y)] H' (Sv 9) := ev_slSv (ev_var rfl fun _ _ => ⟨x, rfl, hx⟩) eo_none (eo_some (ev_is rfl)) (by decide)
    have a2 : ∀ {H' : Hp}, Ev z (tVar 5) [some (V.ref u), some (.str x), some (.int (at' : Int)), some (.int (way : Int)), some (.str signs18), some (.str y)] H' (Sv 1) := ev_var rfl fun _ _ => ⟨y, rfl, hy⟩
    have a3 : ∀ {H' : Hp}, Ev z (L2.tSl rSlS (tVar 1) (tPart (tOp (rI0 fun i j => .int (i + j)) (tVar 2) (tC (.int 1)))) tNoPart) [some (V.ref u), some (.str x), some (.int (at' : Int)), some (.int (way : Int)), some (.str signs18), some (.str y)] H' (Sv 9) := ev_slSv (ev_var rfl fun _ _ => ⟨x, rfl, hx⟩) (eo_some (ev_i0 (g := fun i j => .int (i + j)) (ev_is rfl) ev_k)) eo_none (by decide)
    have a4 : ∀ {H' : Hp}, Ev z (L2.tSl rSlS (tVar 1) (tPart (tVar 2)) tNoPart) [some (V.ref u), some (.str x), some (.int (at' : Int)), some (.int (way : Int)), some (.str signs18), some (.str y)] H' (Sv 9) := ev_slSv (ev_var rfl fun _ _ => ⟨x, rfl, hx⟩) (eo_some (ev_is rfl)) eo_none (by decide)
    refine ev_menu (n := 3) (Φ := fun ws H' => ∃ a b c, ws = [a, b, c] ∧ Sv 19 a H' ∧ Sv 19 b H' ∧ Sv 18 c H') (Ev.imp (ev_lst (ea_cons (φ := Sv 19) (ev_addSv (n := 10) (m := 9) (ev_addSv (n := 9) (m := 1) a1 (fun _ _ _ => a2) (by decide)) (fun _ _ _ => a3) (by decide)) fun a H4 r4 _ => ea_cons (φ := Sv 19) (ev_addSv (n := 10) (m := 9) (ev_addSv (n := 9) (m := 1) a1 (fun _ _ _ => a2) (by decide)) (fun _ _ _ => a4) (by decide)) fun b H5 r5 _ => ea_cons (φ := Sv 18) (ev_addSv (n := 9) (m := 9) a1 (fun _ _ _ => a3) (by decide)) fun c H6 r6 _ => ea_nil) ?_) ?_) (fun x H4 r4 => ev_var rfl fun _ _ => ⟨way, rfl, hway⟩) ?_
    · rintro vs H' ⟨a, r, rfl, _, b, r', rfl, _, c, r'', rfl, _, rfl⟩
      exact (show 3 ≤ 100000 by decide)
    · rintro v H' _ ⟨p, vs, e, nu, hp, a, r, rfl, ha, b, r', rfl, hb, c, r'', rfl, hc, rfl⟩
      exact ⟨p, _, e, nu, hp, a, b, c, rfl, ha, hb, hc⟩
    · rintro ws H' _ ⟨a, b, c, rfl, ha, hb, hc⟩
      refine ⟨rfl, fun w hw => ?_⟩
      rcases List.mem_cons.mp hw with rfl | hw
      · exact ha
      rcases List.mem_cons.mp hw with rfl | hw
      · exact hb
      rcases List.mem_cons.mp hw with rfl | hw
      · obtain ⟨y, e, hy⟩ := hc
        exact ⟨y, e, hy.mono (by decide)⟩
      cases hw
  obtain ⟨x5, rfl, hx5⟩ := f5 H5 .refl
  exact q x5 H5 hx5 (((r1.tr r3).tr r4).tr r5)

/-- things of any kind -/
def odd16 : List PyData := [.none, .bool true, .bool false, .int 0, .int 7, .str "", .list [], .dict [], .tuple [.str "a"], .list [.str "a"], .tuple [.list []], .tuple [.none], .dict [(.str "a", .int 1)], .tuple [.str ""],
  .tuple [.str "ab", .tuple [.str "c"]], .str "A"]
theorem ok_odd (T : Tx mg tL t8 t6) (d__law_odd : Df K mg "_law_odd" s__law_odd ["_law_purse_here"]) (d__law_take : Df K mg "_law_take" s__law_take ["_law_purse_here", "_law_many"])
    (G__law_take : FnOk P w K mg base CX0 1 d__law_take.f d__law_take.fd ["_law_purse_here", "_law_many"] spTake) : FnOk P w K mg base CX0 2 d__law_odd.f d__law_odd.fd ["_law_purse_here"] (spDat (· ∈ odd16)) := by
  refine d__law_odd.F.ok sc__law_odd (fun vs H Q E ⟨_, _, e, _⟩ => by rw [e]; rfl) (fun cdv A outer s H vs Q E hr h => ?_)
  obtain ⟨z, u, rfl, hz, hu, q⟩ := h
  refine ⟨_, (pss_cons (ps_set (i := 1) sc__law_odd.nd rfl (.inl rfl) (pe_lst (pa_cons pe_non (pa_cons pe_bl (pa_cons pe_bl (pa_cons pe_int (pa_cons pe_int (pa_cons pe_str (pa_cons (pe_lst pa_nil) (pa_cons pe_dnewK (pa_cons (pe_tup (pa_cons pe_str pa_nil)) (pa_cons (pe_lst (pa_cons pe_str pa_nil)) (pa_cons (pe_tup (pa_cons (pe_lst pa_nil) pa_nil)) (pa_cons (pe_tup (pa_cons pe_non pa_nil)) (pa_cons (pe_disp (pps_cons pe_str pe_int pps_nil) (by rfl) (by rfl) (fun z => by cases z) (by decide)) (pa_cons (pe_tup (pa_cons pe_str pa_nil)) (pa_cons (pe_tup (pa_cons pe_str (pa_cons (pe_tup (pa_cons pe_str pa_nil)) pa_nil))) (pa_cons pe_str pa_nil))))))))))))))))))
    (pss_one (ps_ret (pe_ix (k_ixl (K := K)) (pv 1) (pe_call G__law_take (hr.mono (by decide)) (by rfl) d__law_take.g d__law_take.F.kp d__law_take.b .nil pass0 (pa_cons (pv 0) (pa_cons pe_int pa_nil))) (fun _ _ => rfl))))), ?_⟩
  refine q_set (z := z) (φ := Lst z fun ws H' => DUA z.U H' ws odd16) hz ?_ fun v1 H1 r1 f1 => ?_
  · refine ev_lst (Φ := fun ws H' => DUA z.U H' ws odd16) ?_ fun vs H' e => by rw [e.len]; exact (show 16 ≤ 100000 by decide)
    exact ed_cons (ed_k fun _ => .non) fun _ _ => ed_cons (ed_k fun _ => .bl _) fun _ _ => ed_cons (ed_k fun _ => .bl _) fun _ _ => ed_cons (ed_k fun _ => .int _) fun _ _ => ed_cons (ed_k fun _ => .int _) fun _ _ => ed_cons (ed_k fun _ => .str _) fun _ _ =>
      ed_cons (ed_lst ed_nil (by decide)) fun _ _ => ed_cons ed_dnew fun _ _ => ed_cons (ed_tup (ed_cons (ed_k fun _ => .str _) fun _ _ => ed_nil) (by decide)) fun _ _ => ed_cons (ed_lst (ed_cons (ed_k fun _ => .str _) fun _ _ => ed_nil) (by decide)) fun _ _ =>
      ed_cons (ed_tup (ed_cons (ed_lst ed_nil (by decide)) fun _ _ => ed_nil) (by decide)) fun _ _ => ed_cons (ed_tup (ed_cons (ed_k fun _ => .non) fun _ _ => ed_nil) (by decide)) fun _ _ => ed_cons (ed_dict1 fun _ => .int _) fun _ _ =>
      ed_cons (ed_tup (ed_cons (ed_k fun _ => .str _) fun _ _ => ed_nil) (by decide)) fun _ _ => ed_cons (ed_tup (ed_cons (ed_k fun _ => .str _) fun _ _ => ed_cons (ed_tup (ed_cons (ed_k fun _ => .str _) fun _ _ => ed_nil) (by decide)) fun _ _ => ed_nil) (by decide)) fun _ _ =>
      ed_cons (ed_k fun _ => .str _) fun _ _ => ed_nil
  refine s_ret (z := z) (φ := Ds z (· ∈ odd16)) r1.dr ?_ fun v2 H2 r2 f2 => ?_
  · refine ed_menuV (ds := odd16) (n := 16) (ev_var rfl fun H' w => f1 H' w) (fun x H2 r2 => ev_take hu (ev_is rfl) ev_k (by decide) (by decide)) rfl fun d hd => hd
  · obtain ⟨d, hd, hv⟩ := f2 H2 .refl
    exact q v2 d H2 hd (r1.tr r2) fun H3 w => hv.w w
end
end K01

set_option Elab.async false
set_option linter.all false
set_option maxRecDepth 100000
set_option maxHeartbeats 4000000
namespace K01
open PySem PySem.Spec PyProof.Rows L2 FB
/-- a part that isn't a text -/
def It0 (o : PyData) : Prop := o ∈ odd16 ∨ ∃ xs : List Str, o = .tuple (xs.map PyData.str) ∧ xs.length ≤ 8 ∧ ∀ x ∈ xs, Txs 9 x
def Way1 (ds : List PyData) : Prop := ds.length ≤ 17 ∧ ∃ o, It0 o ∧ ∀ e ∈ ds, (∃ x, e = .str x ∧ Txs 19 x) ∨ e = o
def WayP (d : PyData) : Prop := (∃ ds, d = .tuple ds ∧ Way1 ds) ∨ ∃ xs : List Str, d = .list (xs.map PyData.str) ∧ xs.length ≤ 8 ∧ ∀ x ∈ xs, Txs 9 x
theorem none_odd : It0 .none := .inl (by simp [odd16])
theorem way_sl {ds : List PyData} {n m : Nat} (h : SL n m ds) (hn : n ≤ 17) (hm : m ≤ 19) : Way1 ds := by
  obtain ⟨xs, rfl, hl, hx⟩ := h
  refine ⟨by rw [List.length_map]; omega, .none, none_odd, fun e he => ?_⟩
  obtain ⟨x, hxx, rfl⟩ := List.mem_map.mp he
  exact .inl ⟨x, rfl, (hx x hxx).mono hm⟩
theorem sl_mem {ds : List PyData} {n m : Nat} (h : SL n m ds) {e : PyData} (he : e ∈ ds) : ∃ x, e = .str x ∧ Txs m x := by
  obtain ⟨xs, rfl, hl, hx⟩ := h
  obtain ⟨x, hxx, rfl⟩ := List.mem_map.mp he
  exact ⟨x, rfl, hx x hxx⟩
theorem sl_len {ds : List PyData} {n m : Nat} (h : SL n m ds) : ds.length ≤ n := by
  obtain ⟨xs, rfl, hl, hx⟩ := h
  rw [List.length_map]
  exact hl
section
variable {P : Program} {w : World} {K : PySem.W.Frag} {mg : Str → Option Value} {base : Heap} {tL t8 t6 : Tok}
theorem ok_way (T : Tx mg tL t8 t6) (d__law_way : Df K mg "_law_way" s__law_way ["_law_purse_here"]) (d__law_take : Df K mg "_law_take" s__law_take ["_law_purse_here", "_law_many"]) (d__law_name : Df K mg "_law_name" s__law_name ["_law_purse_here"])
    (d__law_odd : Df K mg "_law_odd" s__law_odd ["_law_purse_here"]) (d__law_bent : Df K mg "_law_bent" s__law_bent ["_law_purse_here", "_law_name_here"])
    (G__law_take : FnOk P w K mg base CX0 1 d__law_take.f d__law_take.fd ["_law_purse_here", "_law_many"] spTake) (G__law_name : FnOk P w K mg base CX0 2 d__law_name.f d__law_name.fd ["_law_purse_here"] (spTxt 9))
    (G__law_odd : FnOk P w K mg base CX0 2 d__law_odd.f d__law_odd.fd ["_law_purse_here"] (spDat (· ∈ odd16))) (G__law_bent : FnOk P w K mg base CX0 2 d__law_bent.f d__law_bent.fd ["_law_purse_here", "_law_name_here"] (spTxt2 9 19)) :
    FnOk P w K mg base CX0 3 d__law_way.f d__law_way.fd ["_law_purse_here"] (spDat WayP) := by
  refine d__law_way.F.ok sc__law_way (fun vs H Q E ⟨_, _, e, _⟩ => by rw [e]; rfl) (fun cdv A outer s H vs Q E hr h => ?_)
  obtain ⟨z, u, rfl, hz, hu, q⟩ := h
  refine ⟨_, (pss_cons (ps_par (i := 1) (j := 2) (by rfl) sc__law_way.nd rfl rfl (by decide) rfl rfl (pa_cons (pe_call G__law_take (hr.mono (by decide)) (by rfl) d__law_take.g d__law_take.F.kp d__law_take.b .nil pass0 (pa_cons (pv 0) (pa_cons pe_int pa_nil))) (pa_cons (pe_ix (k_ixl (K := K)) (pe_lst (pa_cons pe_int (pa_cons pe_int (pa_cons pe_int (pa_cons pe_int (pa_cons pe_int (pa_cons pe_int (pa_cons pe_int (pa_cons pe_int pa_nil))))))))) (pe_call G__law_take (hr.mono (by decide)) (by rfl) d__law_take.g d__law_take.F.kp d__law_take.b .nil pass0 (pa_cons (pv 0) (pa_cons pe_int pa_nil))) (fun _ _ => rfl)) pa_nil)) (by rfl))
    (pss_cons (ps_set (i := 3) sc__law_way.nd rfl (.inl rfl) (pe_callTy (k_tuple (K := K)) (by rfl) T.tuple (by decide +kernel) (pa_cons (pe_lc (own := [("_law_turn", 4)]) (g := gName 4) rfl sc__law_way.nd  (pi_range1 (by rfl) T.range (pa_cons (pv 2) pa_nil)) (blkOk_by (own := [("_law_turn", 4)]) (N := ["_law_purse_here", "_law_way_here", "_law_many", "_law_found", "_law_turn", "_law_at", "_law_odd_here", "_law_name_here"]) (sc := defScope s__law_way) (by decide +kernel)) (fun _ _ _ _ _ => (pg_name (i := 4) sc__law_way.nd rfl (Or.inl rfl))) (fun _ _ _ _ _ => pts_nil) (fun _ _ _ _ _ => (pe_call G__law_name (hr.mono (by decide)) (by rfl) d__law_name.g d__law_name.F.kp d__law_name.b .nil pass0 (pa_cons (pv 0) pa_nil)))) pa_nil)))
    (pss_cons (ps_par (i := 5) (j := 6) (by rfl) sc__law_way.nd rfl rfl (by decide) rfl rfl (pa_cons (pe_call G__law_take (hr.mono (by decide)) (by rfl) d__law_take.g d__law_take.F.kp d__law_take.b .nil pass0 (pa_cons (pv 0) (pa_cons (pe_op op_add (pv 2) pe_int) pa_nil))) (pa_cons (pe_call G__law_odd (hr.mono (by decide)) (by rfl) d__law_odd.g d__law_odd.F.kp d__law_odd.b .nil pass0 (pa_cons (pv 0) pa_nil)) pa_nil)) (by rfl))
    (pss_cons (ps_if (pt_cmpR op_eq (pv 1) pe_int (nomark _))
    (pss_one (ps_ret (pe_callTy (k_list (K := K)) (by rfl) T.list (by decide +kernel) (pa_cons (pv 3) pa_nil))))
    pss_nil)
    (pss_cons (ps_if (pt_cmpR op_eq (pv 1) pe_int (nomark _))
    (pss_one (ps_ret (pe_op (k_catA (K := K)) (pe_op (k_catA (K := K)) (pe_slice (k_slt (K := K)) (pv 3) po_none (po_some (pv 5))) (pe_tup (pa_cons (pv 6) pa_nil))) (pe_slice (k_slt (K := K)) (pv 3) (po_some (pe_op op_add (pv 5) pe_int)) po_none))))
    pss_nil)
    (pss_cons (ps_if (pt_cmpR op_eq (pv 1) pe_int (nomark _))
    (pss_one (ps_ret (pe_op (k_catA (K := K)) (pe_slice (k_slt (K := K)) (pv 3) po_none (po_some (pv 5))) (pe_tup (pa_cons (pe_slice (k_slt (K := K)) (pv 3) (po_some (pv 5)) po_none) pa_nil)))))
    pss_nil)
    (pss_cons (ps_if (pt_cmpR op_eq (pv 1) pe_int (nomark _))
    (pss_one (ps_ret (pe_op (k_catA (K := K)) (pe_op (k_catA (K := K)) (pe_slice (k_slt (K := K)) (pv 3) po_none (po_some (pv 5))) (pe_callTy (k_tuple (K := K)) (by rfl) T.tuple (by decide +kernel) (pa_cons (pe_lc (own := [("_law_name_here", 7)]) (g := gName 7) rfl sc__law_way.nd  (k_pit (K := K) (pi_tup (pe_slice (k_slt (K := K)) (pv 3) (po_some (pv 5)) (po_some (pe_op op_add (pv 5) pe_int))))) (blkOk_by (own := [("_law_name_here", 7)]) (N := ["_law_purse_here", "_law_way_here", "_law_many", "_law_found", "_law_turn", "_law_at", "_law_odd_here", "_law_name_here"]) (sc := defScope s__law_way) (by decide +kernel)) (fun _ _ _ _ _ => (pg_name (i := 7) sc__law_way.nd rfl (Or.inl rfl))) (fun _ _ _ _ _ => pts_nil) (fun _ _ _ _ _ => (pe_call G__law_bent (hr.mono (by decide)) (by rfl) d__law_bent.g d__law_bent.F.kp d__law_bent.b .nil pass0 (pa_cons (pv 0) (pa_cons (pv 7) pa_nil))))) pa_nil))) (pe_slice (k_slt (K := K)) (pv 3) (po_some (pe_op op_add (pv 5) pe_int)) po_none))))
    pss_nil)
    (pss_one (ps_ret (pv 3)))))))))), ?_⟩
  -- the way, how many
  refine q_par (z := z) (Φ := fun v w _ => Nn 8 v H ∧ Nn 9 w H) hz ?_ fun v1 v2 H1 r1 f1 => ?_
  · refine EvA.imp (ea_cons (φ := Nn 8) (ev_take hu (ev_is rfl) ev_k (by decide) (by decide)) fun v H1 r1 _ => ea_cons (φ := Nn 9) (ev_menu (n := 8) (Φ := fun ws _ => ws = ([0, 1, 2, 3, 5, 6, 7, 8] : List Int).map V.int) (ev_lst (ea_is ev_k (ea_is ev_k (ea_is ev_k (ea_is ev_k (ea_is ev_k (ea_is ev_k (ea_is ev_k (ea_is ev_k ea_nil)))))))) fun vs H' e => by rw [e]; exact (show 8 ≤ 100000 by decide)) (fun x H2 r2 => ev_take hu (ev_is rfl) ev_k (by decide) (by decide)) fun ws H2 _ e => ?_) fun v H2 r2 _ => ea_nil) ?_
    · subst e
      refine ⟨rfl, fun w hw => ?_⟩
      obtain ⟨i, hi, rfl⟩ := List.mem_map.mp hw
      have : 0 ≤ i ∧ i < 9 := by
        simp only [List.mem_cons, List.not_mem_nil, or_false] at hi
        omega
      exact ⟨i.toNat, by rw [Int.toNat_of_nonneg this.1], by omega⟩
    · rintro vs H' _ ⟨a, r, rfl, ha, b, r', rfl, hb, rfl⟩
      exact ⟨a, b, rfl, ha, hb⟩
  obtain ⟨⟨way, rfl, hway⟩, ⟨many, rfl, hmany⟩⟩ := f1 H1 .refl
  -- the names
  refine q_set (z := z) (φ := TD z (SL 8 9)) r1.dr ?_ fun v3 H2 r2 f2 => ?_
  · refine (ev_tupleL (Φ := fun ws H' => ws.length ≤ 8 ∧ ∀ (i : Nat) w, ws[i]? = some w → Sv 9 w H') ((ev_lc (P := (· = many)) (φ := fun _ => Sv 9) (ei_range (n := many) (ea_is (ev_is rfl) ea_nil) (by omega)) (fun n h => by omega) (by intro _; rfl) fun n i x D H2 hn hi hx hD r2 rD => ev_txt (z := z.add D) hu (ev_is rfl)).imp ?_)).imp fun v H' _ h => sv_strs h
    rintro v H' _ ⟨p, ws, e, nu, hp, h1, h2⟩
    exact ⟨p, ws, e, nu, hp, by omega, h2⟩
  obtain ⟨a3, us3, rfl, nu3, ha3, f3⟩ := Tup.at f2
  obtain ⟨ds3, ⟨xs, rfl, hxl, hx⟩, hds3⟩ := f3 H2 .refl
  have eus : us3 = xs.map V.str := by
    clear f3 f2 ha3
    have : ∀ {xs : List Str} {us : List V}, DUA z.U H2 us (xs.map PyData.str) → us = xs.map V.str := by
      intro xs
      induction xs with
      | nil => intro us h; cases h; rfl
      | cons x r ih =>
        intro us h
        cases h with
        | cons h t =>
          cases h
          rw [ih t]
          rfl
    exact this hds3
  subst eus
  have found : ∀ {σ : L2.St} {H' : Hp}, σ[3]? = some (some (.ref a3)) → z.W H2 H' → Ev z (tVar 3) σ H' (Tup z fun ws _ => ws = xs.map V.str) := fun e w => ev_var e fun H3 w' => ⟨a3, _, rfl, nu3, (w.tr w') a3 _ nu3 ha3, rfl⟩
  -- the place, the odd thing
  refine q_par (z := z) (Φ := fun v w H' => Nn (many + 1) v H' ∧ Ds z (· ∈ odd16) w H') r2.dr ?_ fun v5 v6 H3 r3 f3 => ?_
  · refine EvA.imp (ea_cons (φ := Nn (many + 1)) (ev_take hu (ev_is rfl) (ev_to (ev_i0 (g := fun i j => .int (i + j)) (ev_is rfl) ev_k) rfl) (by omega) (by omega)) fun v H1 r1 _ => ea_cons (φ := Ds z (· ∈ odd16)) (ev_dat hu (ev_is rfl)) fun v H2 r2 _ => ea_nil) ?_
    rintro vs H' _ ⟨a, r, rfl, ha, b, r', rfl, hb, rfl⟩
    exact ⟨a, b, rfl, ha, hb⟩
  obtain ⟨⟨at', rfl, hat⟩, ⟨od, hod, hv6⟩⟩ := f3 H3 .refl
  have done : ∀ {φ : VP} {te : TE} {σ : L2.St} {H4 : Hp}, z.R H3 H4 → Ev z te σ H4 (Ds z WayP) → tRet te { nx := fun _ H' => Q V.non H', rt := Q } σ H4 := fun r4 h => s_ret (z := z) r4.dr h fun v H5 r5 f => by
    obtain ⟨d, hd, hv⟩ := f H5 .refl
    exact q v d H5 hd ((((r1.tr r2).tr r3).tr r4).tr r5) fun H6 w => hv.w w
  have asTD : ∀ {P : List PyData → Prop} {te : TE} {σ : L2.St} {H4 : Hp}, Ev z te σ H4 (TD z P) → (∀ ds, P ds → Way1 ds) → Ev z te σ H4 (Ds z WayP) := fun h i => h.imp fun v H' _ ⟨p, ws, e, nu, hp, ds, hP, hd⟩ => ⟨.tuple ds, .inl ⟨ds, rfl, i ds hP⟩, by rw [e]; exact .tup nu hp hd⟩
  refine q_if (z := z) r3.dr (et_test (ev_eq (ev_is rfl) ev_k rfl)) (fun _ H4 r4 => ?_) (fun _ H4 r4 => ?_)
  · -- list(found)
    refine done (φ := Ds z WayP) r4 ((ev_listT (found rfl (r3.tr r4).w)).imp fun v H' _ ⟨p, ws, e, nu, hp, ew⟩ => ⟨.list (xs.map PyData.str), .inr ⟨xs, rfl, hxl, hx⟩, ?_⟩)
    rw [e]
    exact .lst nu hp (by rw [ew]; exact .strs xs)
  refine q_if (z := z) r4.dr (et_test (ev_eq (ev_is rfl) ev_k rfl)) (fun _ H5 r5 => ?_) (fun _ H5 r5 => ?_)
  · -- one name an odd thing
    have w5 := ((r3.tr r4).tr r5).w
    have hv5 := (hv6.w r4.w).w r5.w
    refine done (φ := Ds z WayP) (r4.tr r5) (asTD (P := fun ds => ∃ a b, ds = a ++ b ∧ (∃ c d, a = c ++ d ∧ SL 8 9 c ∧ d = [od]) ∧ SL 8 9 b) ?_ ?_)
    · refine ev_catTD (ev_catTD (P' := (· = [od])) (ev_slSL (found rfl w5) eo_none (eo_some (ev_is rfl)) hxl hx) (fun _ H6 r6 => ?_) ?_) (fun _ H6 r6 => ev_slSL (found rfl (w5.tr r6.w)) (eo_some (ev_i0 (g := fun i j => .int (i + j)) (ev_is rfl) ev_k)) eo_none hxl hx) ?_
      · exact (ev_tup (ed_cons (d := od) (ev_var rfl fun H' w => (hv5.w r6.w).w w) fun _ _ => ed_nil) fun vs H' e => by rw [e.len]; exact (show 1 ≤ 100000 by decide)).imp fun v H' _ ⟨p, ws, e, nu, hp, q⟩ => ⟨p, ws, e, nu, hp, _, rfl, q⟩
      · rintro a b ha rfl
        have := sl_len ha
        exact (show a.length + 1 ≤ 100000 by omega)
      · rintro a b ⟨c, d, rfl, hc, rfl⟩ hb
        have := sl_len hc
        have := sl_len hb
        rw [List.length_append]
        exact (show c.length + 1 + b.length ≤ 100000 by omega)
    · rintro ds ⟨a, b, rfl, ⟨c, d, rfl, hc, rfl⟩, hb⟩
      have h1 := sl_len hc
      have h2 := sl_len hb
      refine ⟨by rw [List.length_append, List.length_append]; exact (show c.length + 1 + b.length ≤ 17 by omega), od, .inl hod, fun e he => ?_⟩
      rcases List.mem_append.mp he with he | he
      · rcases List.mem_append.mp he with he | he
        · obtain ⟨x, e1, hx⟩ := sl_mem hc he
          exact .inl ⟨x, e1, hx.mono (by decide)⟩
        · exact .inr (by simpa using he)
      · obtain ⟨x, e1, hx⟩ := sl_mem hb he
        exact .inl ⟨x, e1, hx.mono (by decide)⟩
  refine q_if (z := z) r5.dr (et_test (ev_eq (ev_is rfl) ev_k rfl)) (fun _ H6 r6 => ?_) (fun _ H6 r6 => ?_)
  · -- a path within a path
    have w6 := (((r3.tr r4).tr r5).tr r6).w
    refine done (φ := Ds z WayP) ((r4.tr r5).tr r6) (asTD (P := fun ds => ∃ a b, ds = a ++ b ∧ SL 8 9 a ∧ ∃ c, b = [.tuple c] ∧ SL 8 9 c) ?_ ?_)
    · refine ev_catTD (P' := fun b => ∃ c, b = [.tuple c] ∧ SL 8 9 c) (ev_slSL (found rfl w6) eo_none (eo_some (ev_is rfl)) hxl hx) (fun _ H7 r7 => ?_) ?_
      · refine (ev_tup (ea_cons (φ := TD z (SL 8 9)) (ev_slSL (found rfl (w6.tr r7.w)) (eo_some (ev_is rfl)) eo_none hxl hx) fun _ _ _ _ => ea_nil) ?_).imp ?_
        · rintro vs H' ⟨v, r, rfl, _, rfl⟩
          exact (show 1 ≤ 100000 by decide)
        · rintro v H' _ ⟨p, ws, e, nu, hp, v', r, rfl, ⟨p', ws', e', nu', hp', ds, hds, hq⟩, rfl⟩
          exact ⟨p, _, e, nu, hp, _, ⟨ds, rfl, hds⟩, .one (by rw [e']; exact .tup nu' hp' hq)⟩
      · rintro a b ha ⟨c, rfl, hc⟩
        have := sl_len ha
        exact (show a.length + 1 ≤ 100000 by omega)
    · rintro ds ⟨a, b, rfl, ha, c, rfl, ⟨ys, rfl, hl, hy⟩⟩
      have h1 := sl_len ha
      refine ⟨by rw [List.length_append]; exact (show a.length + 1 ≤ 17 by omega), _, .inr ⟨ys, rfl, hl, hy⟩, fun e he => ?_⟩
      rcases List.mem_append.mp he with he | he
      · obtain ⟨x, e1, hx⟩ := sl_mem ha he
        exact .inl ⟨x, e1, hx.mono (by decide)⟩
      · exact .inr (by simpa using he)
  refine q_if (z := z) r6.dr (et_test (ev_eq (ev_is rfl) ev_k rfl)) (fun _ H7 r7 => ?_) (fun _ H7 r7 => ?_)
  · -- one name bent
    have w7 := ((((r3.tr r4).tr r5).tr r6).tr r7).w
    obtain ⟨ys, hys, hyl, hy⟩ := cut_strs xs (some (at' : Int)) (some ((at' : Int) + 1))
    refine done (φ := Ds z WayP) (((r4.tr r5).tr r6).tr r7) (asTD (P := fun ds => ∃ a b, ds = a ++ b ∧ (∃ c d, a = c ++ d ∧ SL 8 9 c ∧ SL 1 19 d) ∧ SL 8 9 b) ?_ ?_)
    · refine ev_catTD (ev_catTD (P' := SL 1 19) (ev_slSL (found rfl w7) eo_none (eo_some (ev_is rfl)) hxl hx) (fun _ H8 r8 => ?_) ?_) (fun _ H8 r8 => ev_slSL (found rfl (w7.tr r8.w)) (eo_some (ev_i0 (g := fun i j => .int (i + j)) (ev_is rfl) ev_k)) eo_none hxl hx) ?_
      · have hy1 : ys.length ≤ 1 := by
          have := congrArg List.length hys
          rw [List.length_map] at this
          rw [← this]
          unfold cutV
          rw [List.length_take, List.length_drop, HT.sIx_nat, show ((at' : Int) + 1) = ((at' + 1 : Nat) : Int) from rfl, HT.sIx_nat]
          omega
        have hsl := ev_slT (found (σ := [some (V.ref u), some (V.int (way : Int)), some (V.int (many : Int)), some (V.ref a3), none, some (V.int (at' : Int)), some v6, none]) rfl (w7.tr r8.w)) (eo_some (ev_is (i := 5) rfl)) (eo_some (ev_i0 (g := fun i j => .int (i + j)) (ev_is (i := 5) rfl) (ev_k (v := .int 1)))) (K := K)
        refine (ev_tupleL (Φ := fun ws H' => ws.length ≤ 1 ∧ ∀ (i : Nat) w, ws[i]? = some w → Sv 19 w H') ((ev_lc (P := (· = (ys.map V.str).length)) (φ := fun _ => Sv 19) (ei_tup (K := K) (xs := ys.map V.str) (hsl.imp fun v H' _ ⟨p, ws, e, nu, hp, ew⟩ => ⟨p, ws, e, nu, hp, by rw [ew]; exact hys⟩)) (fun n h => by rw [h, List.length_map]; omega) (by intro _; rfl) fun n i x D H9 hn hi hxx hD r9 rD => ?_).imp ?_)).imp fun v H' _ h => sv_strs h
        · rw [List.getElem?_map] at hxx
          obtain ⟨y, hy2, rfl⟩ := Option.map_eq_some_iff.mp hxx
          exact ev_txt2 (z := z.add D) (n := 9) (hx y (hy y (List.mem_of_getElem? hy2))) hu (ev_is rfl) (ev_is rfl)
        · rintro v H' _ ⟨p, ws, e, nu, hp, h1, h2⟩
          exact ⟨p, ws, e, nu, hp, by rw [h1, List.length_map]; exact hy1, h2⟩
      · rintro a b ha hb
        have := sl_len ha
        have := sl_len hb
        omega
      · rintro a b ⟨c, d, rfl, hc, hd⟩ hb
        have := sl_len hc
        have := sl_len hd
        have := sl_len hb
        rw [List.length_append]
        omega
    · rintro ds ⟨a, b, rfl, ⟨c, d, rfl, hc, hd⟩, hb⟩
      have h1 := sl_len hc
      have h2 := sl_len hb
      have h3 := sl_len hd
      refine ⟨by rw [List.length_append, List.length_append]; omega, .none, none_odd, fun e he => ?_⟩
      rcases List.mem_append.mp he with he | he
      · rcases List.mem_append.mp he with he | he
        · obtain ⟨x, e1, hx⟩ := sl_mem hc he
          exact .inl ⟨x, e1, hx.mono (by decide)⟩
        · exact .inl (sl_mem hd he)
      · obtain ⟨x, e1, hx⟩ := sl_mem hb he
        exact .inl ⟨x, e1, hx.mono (by decide)⟩
  · have w7 := ((((r3.tr r4).tr r5).tr r6).tr r7).w
    refine done (φ := Ds z WayP) (((r4.tr r5).tr r6).tr r7) (asTD (P := SL 8 9) ((found rfl w7).imp fun v H' _ ⟨p, ws, e, nu, hp, ew⟩ => ⟨p, ws, e, nu, hp, _, ⟨xs, rfl, hxl, hx⟩, by rw [ew]; exact .strs xs⟩) fun ds h => way_sl h (by decide) (by decide))
end
end K01

set_option Elab.async false
set_option linter.all false
set_option maxRecDepth 100000
set_option maxHeartbeats 4000000
namespace K01
open PySem PySem.Spec PyProof.Rows L2 FB
/-! ### what is drawn can be looked at -/
def Mx (d : PyData) : Prop := d.hasDict = false ∨ hasL d = false
theorem Pl.mx {d : PyData} (h : Pl d) : Mx d := .inl h.nd
theorem odd_ok : ∀ d ∈ odd16, Lf 3 10 d ∧ Mx d ∧ Sl d ∧ Tl d := by
  intro d hd
  simp only [odd16, List.mem_cons, List.not_mem_nil, or_false] at hd
  have sl : ∀ {d : PyData}, (∀ x, d ≠ .str x) → Sl d := fun h x e => absurd e (h x)
  have tl : ∀ {d : PyData}, (∀ x, d ≠ .tuple x) → Tl d := fun h x e => absurd e (h x)
  have s1 : ∀ {x : Str}, x.length ≤ 1000 → Sl (.str x) := fun h y e => by cases e; exact h
  rcases hd with rfl | rfl | rfl | rfl | rfl | rfl | rfl | rfl | rfl | rfl | rfl | rfl | rfl | rfl | rfl | rfl
  · exact ⟨⟨rfl, rfl, by decide, by decide⟩, .inl rfl, sl (by intro _ h; cases h), tl (by intro _ h; cases h)⟩
  · exact ⟨⟨rfl, rfl, by decide, by decide⟩, .inl rfl, sl (by intro _ h; cases h), tl (by intro _ h; cases h)⟩
  · exact ⟨⟨rfl, rfl, by decide, by decide⟩, .inl rfl, sl (by intro _ h; cases h), tl (by intro _ h; cases h)⟩
  · exact ⟨⟨by decide +kernel, by decide +kernel, by decide, by decide +kernel⟩, .inl rfl, sl (by intro _ h; cases h), tl (by intro _ h; cases h)⟩
  · exact ⟨⟨by decide +kernel, by decide +kernel, by decide, by decide +kernel⟩, .inl rfl, sl (by intro _ h; cases h), tl (by intro _ h; cases h)⟩
  · exact ⟨⟨by decide +kernel, by decide +kernel, by decide, by decide +kernel⟩, .inl rfl, s1 (by decide), tl (by intro _ h; cases h)⟩
  · exact ⟨⟨by decide +kernel, by decide +kernel, by decide +kernel, by decide +kernel⟩, .inl rfl, sl (by intro _ h; cases h), tl (by intro _ h; cases h)⟩
  · exact ⟨⟨by decide +kernel, by decide +kernel, by decide +kernel, by decide +kernel⟩, .inr (by decide +kernel), sl (by intro _ h; cases h), tl (by intro _ h; cases h)⟩
  · exact ⟨⟨by decide +kernel, by decide +kernel, by decide +kernel, by decide +kernel⟩, .inl (by decide +kernel), sl (by intro _ h; cases h), fun x e => by cases e; exact ⟨by decide, fun e he => by cases List.mem_singleton.mp he; exact s1 (by decide +kernel)⟩⟩
  · exact ⟨⟨by decide +kernel, by decide +kernel, by decide +kernel, by decide +kernel⟩, .inl (by decide +kernel), sl (by intro _ h; cases h), tl (by intro _ h; cases h)⟩
  · exact ⟨⟨by decide +kernel, by decide +kernel, by decide +kernel, by decide +kernel⟩, .inl (by decide +kernel), sl (by intro _ h; cases h), fun x e => by cases e; exact ⟨by decide, fun e he => by cases List.mem_singleton.mp he; exact sl (by intro _ h; cases h)⟩⟩
  · exact ⟨⟨by decide +kernel, by decide +kernel, by decide +kernel, by decide +kernel⟩, .inl (by decide +kernel), sl (by intro _ h; cases h), fun x e => by cases e; exact ⟨by decide, fun e he => by cases List.mem_singleton.mp he; exact sl (by intro _ h; cases h)⟩⟩
  · exact ⟨⟨by decide +kernel, by decide +kernel, by decide +kernel, by decide +kernel⟩, .inr (by decide +kernel), sl (by intro _ h; cases h), tl (by intro _ h; cases h)⟩
  · exact ⟨⟨by decide +kernel, by decide +kernel, by decide +kernel, by decide +kernel⟩, .inl (by decide +kernel), sl (by intro _ h; cases h), fun x e => by cases e; exact ⟨by decide, fun e he => by cases List.mem_singleton.mp he; exact s1 (by decide +kernel)⟩⟩
  · refine ⟨⟨by decide +kernel, by decide +kernel, by decide +kernel, by decide +kernel⟩, .inl (by decide +kernel), sl (by intro _ h; cases h), fun x e => ?_⟩
    cases e
    refine ⟨by decide, fun e he => ?_⟩
    rcases List.mem_cons.mp he with rfl | he
    · exact s1 (by decide +kernel)
    · cases List.mem_singleton.mp he
      exact sl (by intro _ h; cases h)
  · exact ⟨⟨by decide +kernel, by decide +kernel, by decide, by decide +kernel⟩, .inl rfl, s1 (by decide), tl (by intro _ h; cases h)⟩
theorem str_sl {n : Nat} {x : Str} (h : Txs n x) (hn : n ≤ 1000) : Sl (.str x) := fun y e => by cases e; exact Nat.le_trans h.1 hn
theorem okd_str {n : Nat} {x : Str} (h : Txs n x) (hn : n ≤ 1000) : Okd (.str x) := ⟨h.lf.sm (by decide) (by omega) (.inl rfl), str_sl h hn, fun ds e => by cases e⟩
theorem okd_odd {d : PyData} (h : d ∈ odd16) : Okd d := let ⟨a, b, c, e⟩ := odd_ok d h; ⟨a.sm (by decide) (by decide) b, c, e⟩
theorem strs_lf {n m : Nat} {xs : List Str} (h : ∀ x ∈ xs, Txs m x) (hl : xs.length ≤ n) : ∀ d ∈ xs.map PyData.str, Lf 0 m d := fun d hd => by
  obtain ⟨x, hx, rfl⟩ := List.mem_map.mp hd
  exact (h x hx).lf
theorem it0_ok {o : PyData} (h : It0 o) : Lf 3 80 o ∧ Mx o ∧ Sl o := by
  rcases h with h | ⟨xs, rfl, hl, hx⟩
  · obtain ⟨a, b, c, _⟩ := odd_ok o h
    exact ⟨a.mono (by decide) (by decide), b, c⟩
  · refine ⟨(Lf.tup (n := 8) (strs_lf hx hl) (by rw [List.length_map]; exact hl)).mono (by decide) (by decide), .inl ?_, fun y e => by cases e⟩
    simp only [PyData.hasDict]
    exact nd_all fun d hd => by
      obtain ⟨x, _, rfl⟩ := List.mem_map.mp hd
      rfl
theorem way_ok {d : PyData} (h : WayP d) : Lf 4 1400 d ∧ Mx d ∧ Sl d ∧ Tl d := by
  rcases h with ⟨ds, rfl, hl, o, ho, hd⟩ | ⟨xs, rfl, hl, hx⟩
  · obtain ⟨a, b, c⟩ := it0_ok ho
    have lf : ∀ d ∈ ds, Lf 3 80 d := fun d h => by
      rcases hd d h with ⟨x, rfl, hx⟩ | rfl
      · exact hx.lf.mono (by decide) (by decide)
      · exact a
    refine ⟨(Lf.tup (n := 17) lf hl).mono (by decide) (by decide), mx_tup b fun d h => ?_, fun y e => (by cases e), fun ds' e => ?_⟩
    · rcases hd d h with ⟨x, rfl, hx⟩ | rfl
      · exact .inl Pl.str
      · exact .inr rfl
    · cases e
      refine ⟨by omega, fun d h => ?_⟩
      rcases hd d h with ⟨x, rfl, hx⟩ | rfl
      · exact str_sl hx (by decide)
      · exact c
  · refine ⟨(Lf.lst (n := 8) (strs_lf hx hl) (by rw [List.length_map]; exact hl)).mono (by decide) (by decide), .inl ?_, fun y e => (by cases e), fun ds' e => (by cases e)⟩
    simp only [PyData.hasDict]
    exact nd_all fun d hd => by
      obtain ⟨x, _, rfl⟩ := List.mem_map.mp hd
      rfl
theorem okd_way {d : PyData} (h : WayP d) : Okd d := let ⟨a, b, c, e⟩ := way_ok h; ⟨a.sm (by decide) (by decide) b, c, e⟩
theorem okd_one {x : Str} (h : Txs 9 x) : Okd (.tuple [.str x]) := by
  refine ⟨(Lf.tup (n := 1) (k := 0) (m := 9) (fun d hd => by cases List.mem_singleton.mp hd; exact h.lf) (by simp)).sm (by decide) (by decide) (.inl (by simp [PyData.hasDict, PyData.hasDictAll])), fun y e => (by cases e), fun ds e => ?_⟩
  cases e
  exact ⟨by simp, fun e he => by cases List.mem_singleton.mp he; exact str_sl h (by decide)⟩
theorem okd_two {x : Str} {d : PyData} (h : Txs 9 x) (hd : WayP d) : Okd (.tuple [.str x, d]) := by
  obtain ⟨a, b, c, e⟩ := way_ok hd
  refine ⟨(Lf.tup (n := 2) (k := 4) (m := 1400) (fun d' hd' => ?_) (by simp)).sm (by decide) (by decide) (mx_tup b fun d' hd' => ?_), fun y e => (by cases e), fun ds e => ?_⟩
  · rcases List.mem_cons.mp hd' with rfl | hd'
    · exact h.lf.mono (by decide) (by decide)
    · cases List.mem_singleton.mp hd'
      exact a
  · rcases List.mem_cons.mp hd' with rfl | hd'
    · exact .inl Pl.str
    · exact .inr (List.mem_singleton.mp hd')
  · cases e
    refine ⟨by simp, fun e he => ?_⟩
    rcases List.mem_cons.mp he with rfl | he
    · exact str_sl h (by decide)
    · cases List.mem_singleton.mp he
      exact c
/-- the fixed things -/
def fixed11 : List PyData := [.str "a", .str "z", .str "abcdefgh", .str "abcdefghi", .str "", .tuple [], .tuple (List.replicate 6 [.str "a"]).flatten, .tuple (List.replicate 7 [.str "a"]).flatten, .tuple [.str "", .str "a"], .tuple [.str "a", .str ""], .str "ab c"]
theorem fixed_ok : ∀ d ∈ fixed11, Okd d := by
  have s1 : ∀ {x : Str}, x.length ≤ 1000 → Sl (.str x) := fun h y e => by cases e; exact h
  have ss : ∀ {x : Str}, (x.length ≤ 9 ∧ ∀ c ∈ x.cps.toList, c < 1000) → Okd (.str x) := fun h => okd_str (n := 9) h (by decide)
  have st : ∀ {xs : List Str}, xs.length ≤ 9 → (∀ x ∈ xs, x.length ≤ 9 ∧ ∀ c ∈ x.cps.toList, c < 1000) → Okd (.tuple (xs.map PyData.str)) := fun {xs} hl hx =>
    ⟨(Lf.tup (n := 9) (strs_lf (n := 9) (m := 9) hx hl) (by rw [List.length_map]; exact hl)).sm (by decide) (by decide) (.inl (by
      simp only [PyData.hasDict]
      exact nd_all fun d hd => by
        obtain ⟨x, _, rfl⟩ := List.mem_map.mp hd
        rfl)), fun y e => (by cases e), fun ds e => by
      cases e
      refine ⟨by rw [List.length_map]; omega, fun d hd => ?_⟩
      obtain ⟨x, hx', rfl⟩ := List.mem_map.mp hd
      exact str_sl (n := 9) (hx x hx') (by decide)⟩
  intro d hd
  simp only [fixed11, List.mem_cons, List.not_mem_nil, or_false] at hd
  rcases hd with rfl | rfl | rfl | rfl | rfl | rfl | rfl | rfl | rfl | rfl | rfl
  · exact ss (by decide +kernel)
  · exact ss (by decide +kernel)
  · exact ss (by decide +kernel)
  · exact ss (by decide +kernel)
  · exact ss (by decide +kernel)
  · exact st (xs := []) (by decide) (by decide)
  · exact st (xs := ["a", "a", "a", "a", "a", "a"]) (by decide) (by decide +kernel)
  · exact st (xs := ["a", "a", "a", "a", "a", "a", "a"]) (by decide) (by decide +kernel)
  · exact st (xs := ["", "a"]) (by decide) (by decide +kernel)
  · exact st (xs := ["a", ""]) (by decide) (by decide +kernel)
  · exact ss (by decide +kernel)
/-! ### the law -/
def spLaw (K : PySem.W.Frag) : Sp := fun vs H Q _ => ∃ (a : Addr) (ns : List Int), vs = [.ref a] ∧ SqL K H a (ns.map V.int) ∧ ns.length ≤ 63 ∧ ∀ H', Q (.bl true) H'
section
variable {P : Program} {w : World} {K : PySem.W.Frag} {mg : Str → Option Value} {base : Heap} {tL t8 t6 : Tok}
theorem ok_law (T : Tx mg tL t8 t6) (d_law : Df K mg "law" s_law ["_law_script"]) (d__law_told : Df K mg "_law_told" s__law_told ["_law_matter"]) (d__law_purse : Df K mg "_law_purse" s__law_purse ["_law_script", "_law_k"]) (d__law_way : Df K mg "_law_way" s__law_way ["_law_purse_here"])
    (d__law_name : Df K mg "_law_name" s__law_name ["_law_purse_here"]) (d__law_odd : Df K mg "_law_odd" s__law_odd ["_law_purse_here"]) (d__law_bent : Df K mg "_law_bent" s__law_bent ["_law_purse_here", "_law_name_here"])
    (G__law_told : FnG P w K mg base CX0 3 d__law_told.f d__law_told.fd ["_law_matter"] (spLook Okd fun _ => true)) (G__law_purse : FnOk P w K mg base CX0 1 d__law_purse.f d__law_purse.fd ["_law_script", "_law_k"] (spPurse K))
    (G__law_name : FnOk P w K mg base CX0 2 d__law_name.f d__law_name.fd ["_law_purse_here"] (spTxt 9)) (G__law_way : FnOk P w K mg base CX0 3 d__law_way.f d__law_way.fd ["_law_purse_here"] (spDat WayP))
    (G__law_odd : FnOk P w K mg base CX0 2 d__law_odd.f d__law_odd.fd ["_law_purse_here"] (spDat (· ∈ odd16))) (G__law_bent : FnOk P w K mg base CX0 2 d__law_bent.f d__law_bent.fd ["_law_purse_here", "_law_name_here"] (spTxt2 9 19)) :
    FnG P w K mg base CX0 4 d_law.f d_law.fd ["_law_script"] (spLaw K) := by
  refine fng_ok d_law.F sc_law (fun vs H Q E ⟨_, _, e, _⟩ => by rw [e]; rfl) (fun cdv A outer s H vs Q E hg hr h => ?_)
  obtain ⟨a, ns, rfl, hS, hl, q⟩ := h
  refine ⟨_, (pss_cons (ps_set (i := 1) sc_law.nd rfl (.inl rfl) (pe_lst (pa_cons pe_str (pa_cons pe_str (pa_cons pe_str (pa_cons pe_str (pa_cons pe_str (pa_cons (pe_tup pa_nil) (pa_cons (pe_op (k_repT (K := K)) (pe_tup (pa_cons pe_str pa_nil)) pe_int) (pa_cons (pe_op (k_repT (K := K)) (pe_tup (pa_cons pe_str pa_nil)) pe_int) (pa_cons (pe_tup (pa_cons pe_str (pa_cons pe_str pa_nil))) (pa_cons (pe_tup (pa_cons pe_str (pa_cons pe_str pa_nil))) (pa_cons pe_str pa_nil)))))))))))))
    (pss_cons (ps_if (pt_not (pt_val (pe_callB (k_all (K := K)) (by rfl) T.all (by decide +kernel) (pa_cons (pe_lc (own := [("_law_matter", 2)]) (g := gName 2) rfl sc_law.nd  (k_pil (K := K) (pi_list (pv 1))) (blkOk_by (own := [("_law_matter", 2)]) (N := ["_law_script", "_law_fixed", "_law_matter", "_law_k", "_law_purse_here", "_law_turn", "_law_name_here", "_law_way_here"]) (sc := defScope s_law) (by decide +kernel)) (fun _ _ _ _ _ => (pg_name (i := 2) sc_law.nd rfl (Or.inl rfl))) (fun _ _ _ _ _ => pts_nil) (fun _ _ _ _ _ => (pe_g G__law_told hg (hr.mono (by decide)) (by rfl) d__law_told.g d__law_told.F.kp d__law_told.b .nil pass0 (pa_cons (pv 2) pa_nil)))) pa_nil))))
    (pss_one (ps_ret pe_bl))
    pss_nil)
    (pss_cons (ps_for PassesOwn.never rfl (pi_range1 (by rfl) T.range (pa_cons (pe_callB (call_max2 rfl) (by rfl) T.max (by decide +kernel) (pa_cons pe_int (pa_cons (pe_callB (call_min2 rfl) (by rfl) T.min (by decide +kernel) (pa_cons (pe_callB (k_len (K := K)) (by rfl) T.len PySem.boot_len (pa_cons (pv 0) pa_nil)) (pa_cons pe_int pa_nil))) pa_nil))) pa_nil)) (pg_name (i := 3) sc_law.nd rfl (Or.inl rfl))
    (pss_cons (ps_set (i := 4) sc_law.nd rfl (.inl rfl) (pe_call G__law_purse (hr.mono (by decide)) (by rfl) d__law_purse.g d__law_purse.F.kp d__law_purse.b .nil pass0 (pa_cons (pv 0) (pa_cons (pv 3) pa_nil))))
    (pss_one (ps_for PassesOwn.never rfl (pi_range1 (by rfl) T.range (pa_cons pe_int pa_nil)) (pg_name (i := 5) sc_law.nd rfl (Or.inl rfl))
    (pss_cons (ps_par (i := 6) (j := 7) (by rfl) sc_law.nd rfl rfl (by decide) rfl rfl (pa_cons (pe_call G__law_name (hr.mono (by decide)) (by rfl) d__law_name.g d__law_name.F.kp d__law_name.b .nil pass0 (pa_cons (pv 4) pa_nil)) (pa_cons (pe_call G__law_way (hr.mono (by decide)) (by rfl) d__law_way.g d__law_way.F.kp d__law_way.b .nil pass0 (pa_cons (pv 4) pa_nil)) pa_nil)) (by rfl))
    (pss_one (ps_for PassesOwn.never rfl (k_pil (K := K) (pi_list (pe_lst (pa_cons (pv 6) (pa_cons (pe_call G__law_bent (hr.mono (by decide)) (by rfl) d__law_bent.g d__law_bent.F.kp d__law_bent.b .nil pass0 (pa_cons (pv 4) (pa_cons (pv 6) pa_nil))) (pa_cons (pv 6) (pa_cons (pv 7) (pa_cons (pe_call G__law_odd (hr.mono (by decide)) (by rfl) d__law_odd.g d__law_odd.F.kp d__law_odd.b .nil pass0 (pa_cons (pv 4) pa_nil)) (pa_cons (pe_tup (pa_cons (pv 6) pa_nil)) (pa_cons (pe_tup (pa_cons (pv 6) (pa_cons (pv 7) pa_nil))) (pa_cons (pv 7) pa_nil))))))))))) (pg_name (i := 2) sc_law.nd rfl (Or.inl rfl))
    (pss_one (ps_if (pt_not (pt_val (pe_g G__law_told hg (hr.mono (by decide)) (by rfl) d__law_told.g d__law_told.F.kp d__law_told.b .nil pass0 (pa_cons (pv 2) pa_nil))))
    (pss_one (ps_ret pe_bl))
    pss_nil)))))))))
    (pss_one (ps_ret pe_bl))))), ?_⟩
  -- the fixed things
  refine q_set (z := z0) (φ := Lst z0 fun ws H' => DUA z0.U H' ws fixed11) z0r ?_ fun v1 H1 r1 f1 => ?_
  · refine ev_lst (Φ := fun ws H' => DUA z0.U H' ws fixed11) ?_ fun vs H' e => by rw [e.len]; exact (show 11 ≤ 100000 by decide)
    exact ed_cons (ed_k fun _ => .str _) fun _ _ => ed_cons (ed_k fun _ => .str _) fun _ _ => ed_cons (ed_k fun _ => .str _) fun _ _ => ed_cons (ed_k fun _ => .str _) fun _ _ => ed_cons (ed_k fun _ => .str _) fun _ _ => ed_cons (ed_tup ed_nil (by decide)) fun _ _ =>
      ed_cons (ed_rep (n := 6) (ed_tup (ed_cons (ed_k fun _ => .str _) fun _ _ => ed_nil) (by decide)) ev_k (by simp) (by decide) (by decide) (by decide)) fun _ _ => ed_cons (ed_rep (n := 7) (ed_tup (ed_cons (ed_k fun _ => .str _) fun _ _ => ed_nil) (by decide)) ev_k (by simp) (by decide) (by decide) (by decide)) fun _ _ =>
      ed_cons (ed_tup (ed_cons (ed_k fun _ => .str _) fun _ _ => ed_cons (ed_k fun _ => .str _) fun _ _ => ed_nil) (by decide)) fun _ _ => ed_cons (ed_tup (ed_cons (ed_k fun _ => .str _) fun _ _ => ed_cons (ed_k fun _ => .str _) fun _ _ => ed_nil) (by decide)) fun _ _ => ed_cons (ed_k fun _ => .str _) fun _ _ => ed_nil
  obtain ⟨p1, ws1, rfl, nu1, hp1, hw1⟩ := Lst.at f1
  refine q_if (z := z0) (b := false) z0r (et_to (et_not (et_B (ev_allL (K := K) (xs := ws1) (g := fun _ => true) (ev_lstv rfl nu1 hp1 .refl) ?_ (by intro _; rfl) fun v D H2 hm hD r2 rD => ?_))) ?_) (fun hb => by cases hb) fun _ H2 r2 => ?_
  · rw [(hw1 H1 .refl).len]; exact (show 11 ≤ 100000 by decide)
  · obtain ⟨d, hd, hv⟩ := (hw1 H1 .refl).mem hm
    exact ev_look (ok := Okd) (f := fun _ => true) (ev_var rfl fun H' w => (hv.add hD r2.w).w w) (fixed_ok d hd)
  · rw [List.all_eq_true.mpr fun _ _ => rfl]; rfl
  -- the cells
  have hS2 : ∀ {H' : Hp}, z0.R H2 H' → SqL K H' a (ns.map V.int) := fun r => sql_z0 hS ((r1.tr r2).tr r)
  have hn : -1000000 ≤ (if (if (8 : Int) < ((ns.map V.int).length : Int) then (8 : Int) else ((ns.map V.int).length : Int)) > 2 then (if (8 : Int) < ((ns.map V.int).length : Int) then (8 : Int) else ((ns.map V.int).length : Int)) else 2)
      ∧ (if (if (8 : Int) < ((ns.map V.int).length : Int) then (8 : Int) else ((ns.map V.int).length : Int)) > 2 then (if (8 : Int) < ((ns.map V.int).length : Int) then (8 : Int) else ((ns.map V.int).length : Int)) else 2) ≤ 1000000 := by
    split <;> (try split) <;> omega
  refine q_forR (z := z0) (n := (if (if (8 : Int) < ((ns.map V.int).length : Int) then (8 : Int) else ((ns.map V.int).length : Int)) > 2 then (if (8 : Int) < ((ns.map V.int).length : Int) then (8 : Int) else ((ns.map V.int).length : Int)) else 2)) z0r
    (ea_is (ev_max ev_k (ev_min (ev_lenQ (ev_is rfl) fun H1 r => hS2 r) ev_k)) ea_nil) hn (fun i σ' H' => z0.R H2 H' ∧ ∃ o2 o3 o4 o5 o6 o7, σ' = [some (.ref a), some (.ref p1), o2, o3, o4, o5, o6, o7])
    (fun H3 r3 => ⟨r3, none, none, none, none, none, none, rfl⟩) (fun k σ' H' hk hP => ?_) (fun σ' H' hP => ?_)
  · obtain ⟨r3, o2, o3, o4, o5, o6, o7, rfl⟩ := hP
    have hk8 : k ≤ 1000 := by
      have h1 : (k : Int) < 9 := by
        refine Int.lt_of_lt_of_le hk ?_
        split <;> (try split) <;> omega
      omega
    refine ⟨_, rfl, _, rfl, z0, a, ns, k, rfl, z0r, hS2 r3, by omega, hk8, fun p o H4 r4 hp4 _ hpo hpur => ?_⟩
    have ru := zu_r hpo hpur
    -- nine turns
    refine s_forR (z := zu p) (n := 9) ru (ea_is ev_k ea_nil) (by decide) (fun i σ' H' => (zu p).R H4 H' ∧ ∃ o2 o5 o6 o7, σ' = [some (.ref a), some (.ref p1), o2, some (.int (k : Int)), some (.ref p), o5, o6, o7])
      (fun H5 r5 => ⟨r5, _, _, _, _, rfl⟩) (fun j σ' H5 hj hP => ?_) (fun σ' H5 hP => ?_)
    · obtain ⟨r5, o2, o5, o6, o7, rfl⟩ := hP
      refine q_par (z := zu p) (Φ := fun v w H' => Sv 9 v H' ∧ Ds (zu p) WayP w H') r5.dr ?_ fun v6 v7 H6 r6 f6 => ?_
      · refine EvA.imp (ea_cons (φ := Sv 9) (ev_txt zu_i (ev_is rfl)) fun v H1 r1 _ => ea_cons (φ := Ds (zu p) WayP) (ev_dat zu_i (ev_is rfl)) fun v H2 r2 _ => ea_nil) ?_
        rintro vs H' _ ⟨b, r, rfl, hb, c, r', rfl, hc, rfl⟩
        exact ⟨b, c, rfl, hb, hc⟩
      obtain ⟨⟨x, rfl, hx⟩, ⟨wd, hwd, hv7⟩⟩ := f6 H6 .refl
      refine s_forL (z := zu p) (Φ := fun ws H' => ∃ ds, (∀ d ∈ ds, Okd d) ∧ DUA (zu p).U H' ws ds) r6.dr ?_ fun ws H7 r7 hws => ?_
      · have eN : ∀ {H' : Hp}, Ev (zu p) (tVar 6) [some (V.ref a), some (.ref p1), o2, some (.int (k : Int)), some (.ref p), some (.int (j : Int)), some (.str x), some v7] H' (Ds (zu p) Okd) := ev_var rfl fun _ _ => ⟨_, okd_str hx (by decide), .str x⟩
        have eW : ∀ {H' : Hp}, (zu p).R H6 H' → Ev (zu p) (tVar 7) [some (V.ref a), some (.ref p1), o2, some (.int (k : Int)), some (.ref p), some (.int (j : Int)), some (.str x), some v7] H' (Ds (zu p) Okd) := fun r => ev_var rfl fun H' w => ⟨wd, okd_way hwd, (hv7.w r.w).w w⟩
        have c : ∀ {te : TE} {tr : TA} {σ : L2.St} {H' : Hp}, Ev (zu p) te σ H' (Ds (zu p) Okd) → (∀ H'', (zu p).R H' H'' → EvA (zu p) tr σ H'' (fun vs H' => ∃ ds, (∀ d ∈ ds, Okd d) ∧ ds.length ≤ 8 ∧ DUA (zu p).U H' vs ds)) → EvA (zu p) (tCons te tr) σ H' (fun vs H' => ∃ ds, (∀ d ∈ ds, Okd d) ∧ ds.length ≤ 9 ∧ DUA (zu p).U H' vs ds) := fun h hr =>
          (ea_cons h fun v H1 r _ => hr H1 r).imp fun vs H' _ ⟨v, r, e, ⟨d, hd, hv⟩, ds, hds, hl, hh⟩ => ⟨d :: ds, fun d' h' => by
            rcases List.mem_cons.mp h' with rfl | h'
            · exact hd
            · exact hds d' h', by rw [List.length_cons]; omega, by rw [e]; exact .cons hv hh⟩
        have cn : ∀ {n : Nat} {te : TE} {tr : TA} {σ : L2.St} {H' : Hp}, Ev (zu p) te σ H' (Ds (zu p) Okd) → (∀ H'', (zu p).R H' H'' → EvA (zu p) tr σ H'' (fun vs H' => ∃ ds, (∀ d ∈ ds, Okd d) ∧ ds.length ≤ n ∧ DUA (zu p).U H' vs ds)) → EvA (zu p) (tCons te tr) σ H' (fun vs H' => ∃ ds, (∀ d ∈ ds, Okd d) ∧ ds.length ≤ n + 1 ∧ DUA (zu p).U H' vs ds) := fun h hr =>
          (ea_cons h fun v H1 r _ => hr H1 r).imp fun vs H' _ ⟨v, r, e, ⟨d, hd, hv⟩, ds, hds, hl, hh⟩ => ⟨d :: ds, fun d' h' => by
            rcases List.mem_cons.mp h' with rfl | h'
            · exact hd
            · exact hds d' h', by rw [List.length_cons]; omega, by rw [e]; exact .cons hv hh⟩
        refine (ev_lst (Φ := fun ws H' => ∃ ds, (∀ d ∈ ds, Okd d) ∧ ds.length ≤ 0 + 1 + 1 + 1 + 1 + 1 + 1 + 1 + 1 ∧ DUA (zu p).U H' ws ds) ?_ fun vs H' ⟨ds, _, hl, hh⟩ => by rw [hh.len]; omega).imp fun v H' _ ⟨p', ws, e, nu, hp, ds, h1, _, h2⟩ => ⟨p', ws, e, nu, hp, ds, h1, h2⟩
        refine cn eN fun _ ra => cn ((ev_txt2 hx zu_i (ev_is rfl) (ev_is rfl)).imp fun v H' _ ⟨y, e, hy⟩ => ⟨_, okd_str hy (by decide), by rw [e]; exact .str y⟩) fun _ rb => cn eN fun _ rc => cn (eW ((ra.tr rb).tr rc)) fun _ rd =>
          cn ((ev_dat zu_i (ev_is rfl)).imp fun v H' _ ⟨d, hd, hv⟩ => ⟨d, okd_odd hd, hv⟩) fun _ re => cn ((ed_tup (ed_cons (d := .str x) (ev_var rfl fun _ _ => .str x) fun _ _ => ed_nil) (by simp)).imp fun v H' _ hv => ⟨_, okd_one hx, hv⟩) fun _ rf =>
          cn ((ed_tup (ed_cons (d := .str x) (ev_var rfl fun _ _ => .str x) fun _ rh => ed_cons (d := wd) (ev_var rfl fun H' w => (hv7.w (((((((ra.tr rb).tr rc).tr rd).tr re).tr rf).tr rh).w)).w w) fun _ _ => ed_nil) (by simp)).imp fun v H' _ hv => ⟨_, okd_two hx hwd, hv⟩) fun _ rg => cn (eW ((((((ra.tr rb).tr rc).tr rd).tr re).tr rf).tr rg)) fun _ _ => ea_nil.imp fun vs H' _ e => ⟨[], fun _ h => (by cases h), Nat.le_refl _, by rw [e]; exact .nil⟩
      · obtain ⟨ds, hds, hdu⟩ := hws H7 .refl
        refine ⟨fun i σ' H' => (zu p).R H7 H' ∧ ∃ o2 o5 o6 o7, σ' = [some (.ref a), some (.ref p1), o2, some (.int (k : Int)), some (.ref p), o5, o6, o7], ⟨r7.dr, _, _, _, _, rfl⟩, fun i σ' H' hP => hP.1.w, fun i t σ' H8 ht hP => ?_, fun σ' H8 hP => ?_⟩
        · obtain ⟨r8, o2', o5', o6', o7', rfl⟩ := hP
          obtain ⟨d, hd, hv⟩ := (hdu.w r8.w).mem (List.mem_of_getElem? ht)
          refine s_if (z := zu p) (b := false) r8.dr (et_to (et_not (et_B (ev_look (ok := Okd) (f := fun _ => true) (ev_var rfl fun H' w => hv.w w) (hds d hd)))) rfl) (fun hb => by cases hb) fun _ H9 r9 => ⟨r8.tr r9, _, _, _, _, rfl⟩
        · obtain ⟨r8, o2', o5', o6', o7', rfl⟩ := hP
          exact ⟨((r5.tr r6).tr r7).tr r8, _, _, _, _, rfl⟩
    · obtain ⟨r5, o2, o5, o6, o7, rfl⟩ := hP
      exact ⟨r3.tr (zu_z0 r4 hp4 r5), _, _, _, _, _, _, rfl⟩
  · obtain ⟨r3, o2, o3, o4, o5, o6, o7, rfl⟩ := hP
    exact s_ret (z := z0) z0r ev_k fun v H4 r4 f => by
      have e := f H4 .refl
      subst e
      exact q H4
end
end K01

set_option Elab.async false
set_option linter.all false
set_option maxRecDepth 100000
set_option maxHeartbeats 4000000
namespace K01
open PySem PySem.Spec PyProof.Rows L2 FB
theorem all_mk {l : PySem.W.OpenLaw} {w : World} {K : PySem.W.Frag} {h : Heap} {mg : Str → Option Value} {fa f_is_word f_is_path f__law_purse f__law_take f__law_is_word f__law_is_path f__law_name f__law_bent f__law_odd f__law_way f__law_told f_law : Addr} (X : K.In h) (G : h.Ns mainGlobals mg) (hfa : mg "law" = some (.ref fa))
    {od_is_word an_is_word : Option Addr} {sl_is_word : Array (Option Value)} {oc_is_word kV_is_word dc_is_word pm_is_word cd_is_word ct_is_word : Value}
    {od_is_path an_is_path : Option Addr} {sl_is_path : Array (Option Value)} {oc_is_path kV_is_path dc_is_path pm_is_path cd_is_path ct_is_path : Value}
    {od__law_purse an__law_purse : Option Addr} {sl__law_purse : Array (Option Value)} {oc__law_purse kV__law_purse dc__law_purse pm__law_purse cd__law_purse ct__law_purse : Value}
    {od__law_take an__law_take : Option Addr} {sl__law_take : Array (Option Value)} {oc__law_take kV__law_take dc__law_take pm__law_take cd__law_take ct__law_take : Value}
    {od__law_is_word an__law_is_word : Option Addr} {sl__law_is_word : Array (Option Value)} {oc__law_is_word kV__law_is_word dc__law_is_word pm__law_is_word cd__law_is_word ct__law_is_word : Value}
    {od__law_is_path an__law_is_path : Option Addr} {sl__law_is_path : Array (Option Value)} {oc__law_is_path kV__law_is_path dc__law_is_path pm__law_is_path cd__law_is_path ct__law_is_path : Value}
    {od__law_name an__law_name : Option Addr} {sl__law_name : Array (Option Value)} {oc__law_name kV__law_name dc__law_name pm__law_name cd__law_name ct__law_name : Value}
    {od__law_bent an__law_bent : Option Addr} {sl__law_bent : Array (Option Value)} {oc__law_bent kV__law_bent dc__law_bent pm__law_bent cd__law_bent ct__law_bent : Value}
    {od__law_odd an__law_odd : Option Addr} {sl__law_odd : Array (Option Value)} {oc__law_odd kV__law_odd dc__law_odd pm__law_odd cd__law_odd ct__law_odd : Value}
    {od__law_way an__law_way : Option Addr} {sl__law_way : Array (Option Value)} {oc__law_way kV__law_way dc__law_way pm__law_way cd__law_way ct__law_way : Value}
    {od__law_told an__law_told : Option Addr} {sl__law_told : Array (Option Value)} {oc__law_told kV__law_told dc__law_told pm__law_told cd__law_told ct__law_told : Value}
    {od_law an_law : Option Addr} {sl_law : Array (Option Value)} {oc_law kV_law dc_law pm_law cd_law ct_law : Value}
    {t_LETTERS : Tok}
    {t_MOST_LETTERS : Tok}
    {t_MOST_NAMES : Tok}
    (a_is_word : PySem.W.nsIn K mainGlobals "is_word" = some (some (.ref f_is_word))) (l_is_word : K.lookup f_is_word = some ⟨oc_is_word, od_is_word, .func (PySem.W.fnOf "is_word" "is_word" (defArgs s_is_word) (defBody s_is_word) (defScope s_is_word) .none kV_is_word dc_is_word pm_is_word an_is_word cd_is_word ct_is_word), sl_is_word⟩) (c_is_word : PySem.W.codeIn K cd_is_word "is_word" = true) (k_is_word : PySem.W.keepIn K (.ref f_is_word) = true)
    (a_is_path : PySem.W.nsIn K mainGlobals "is_path" = some (some (.ref f_is_path))) (l_is_path : K.lookup f_is_path = some ⟨oc_is_path, od_is_path, .func (PySem.W.fnOf "is_path" "is_path" (defArgs s_is_path) (defBody s_is_path) (defScope s_is_path) .none kV_is_path dc_is_path pm_is_path an_is_path cd_is_path ct_is_path), sl_is_path⟩) (c_is_path : PySem.W.codeIn K cd_is_path "is_path" = true) (k_is_path : PySem.W.keepIn K (.ref f_is_path) = true)
    (a__law_purse : PySem.W.nsIn K mainGlobals "_law_purse" = some (some (.ref f__law_purse))) (l__law_purse : K.lookup f__law_purse = some ⟨oc__law_purse, od__law_purse, .func (PySem.W.fnOf "_law_purse" "_law_purse" (defArgs s__law_purse) (defBody s__law_purse) (defScope s__law_purse) .none kV__law_purse dc__law_purse pm__law_purse an__law_purse cd__law_purse ct__law_purse), sl__law_purse⟩) (c__law_purse : PySem.W.codeIn K cd__law_purse "_law_purse" = true) (k__law_purse : PySem.W.keepIn K (.ref f__law_purse) = true)
    (a__law_take : PySem.W.nsIn K mainGlobals "_law_take" = some (some (.ref f__law_take))) (l__law_take : K.lookup f__law_take = some ⟨oc__law_take, od__law_take, .func (PySem.W.fnOf "_law_take" "_law_take" (defArgs s__law_take) (defBody s__law_take) (defScope s__law_take) .none kV__law_take dc__law_take pm__law_take an__law_take cd__law_take ct__law_take), sl__law_take⟩) (c__law_take : PySem.W.codeIn K cd__law_take "_law_take" = true) (k__law_take : PySem.W.keepIn K (.ref f__law_take) = true)
    (a__law_is_word : PySem.W.nsIn K mainGlobals "_law_is_word" = some (some (.ref f__law_is_word))) (l__law_is_word : K.lookup f__law_is_word = some ⟨oc__law_is_word, od__law_is_word, .func (PySem.W.fnOf "_law_is_word" "_law_is_word" (defArgs s__law_is_word) (defBody s__law_is_word) (defScope s__law_is_word) .none kV__law_is_word dc__law_is_word pm__law_is_word an__law_is_word cd__law_is_word ct__law_is_word), sl__law_is_word⟩) (c__law_is_word : PySem.W.codeIn K cd__law_is_word "_law_is_word" = true) (k__law_is_word : PySem.W.keepIn K (.ref f__law_is_word) = true)
    (a__law_is_path : PySem.W.nsIn K mainGlobals "_law_is_path" = some (some (.ref f__law_is_path))) (l__law_is_path : K.lookup f__law_is_path = some ⟨oc__law_is_path, od__law_is_path, .func (PySem.W.fnOf "_law_is_path" "_law_is_path" (defArgs s__law_is_path) (defBody s__law_is_path) (defScope s__law_is_path) .none kV__law_is_path dc__law_is_path pm__law_is_path an__law_is_path cd__law_is_path ct__law_is_path), sl__law_is_path⟩) (c__law_is_path : PySem.W.codeIn K cd__law_is_path "_law_is_path" = true) (k__law_is_path : PySem.W.keepIn K (.ref f__law_is_path) = true)
    (a__law_name : PySem.W.nsIn K mainGlobals "_law_name" = some (some (.ref f__law_name))) (l__law_name : K.lookup f__law_name = some ⟨oc__law_name, od__law_name, .func (PySem.W.fnOf "_law_name" "_law_name" (defArgs s__law_name) (defBody s__law_name) (defScope s__law_name) .none kV__law_name dc__law_name pm__law_name an__law_name cd__law_name ct__law_name), sl__law_name⟩) (c__law_name : PySem.W.codeIn K cd__law_name "_law_name" = true) (k__law_name : PySem.W.keepIn K (.ref f__law_name) = true)
    (a__law_bent : PySem.W.nsIn K mainGlobals "_law_bent" = some (some (.ref f__law_bent))) (l__law_bent : K.lookup f__law_bent = some ⟨oc__law_bent, od__law_bent, .func (PySem.W.fnOf "_law_bent" "_law_bent" (defArgs s__law_bent) (defBody s__law_bent) (defScope s__law_bent) .none kV__law_bent dc__law_bent pm__law_bent an__law_bent cd__law_bent ct__law_bent), sl__law_bent⟩) (c__law_bent : PySem.W.codeIn K cd__law_bent "_law_bent" = true) (k__law_bent : PySem.W.keepIn K (.ref f__law_bent) = true)
    (a__law_odd : PySem.W.nsIn K mainGlobals "_law_odd" = some (some (.ref f__law_odd))) (l__law_odd : K.lookup f__law_odd = some ⟨oc__law_odd, od__law_odd, .func (PySem.W.fnOf "_law_odd" "_law_odd" (defArgs s__law_odd) (defBody s__law_odd) (defScope s__law_odd) .none kV__law_odd dc__law_odd pm__law_odd an__law_odd cd__law_odd ct__law_odd), sl__law_odd⟩) (c__law_odd : PySem.W.codeIn K cd__law_odd "_law_odd" = true) (k__law_odd : PySem.W.keepIn K (.ref f__law_odd) = true)
    (a__law_way : PySem.W.nsIn K mainGlobals "_law_way" = some (some (.ref f__law_way))) (l__law_way : K.lookup f__law_way = some ⟨oc__law_way, od__law_way, .func (PySem.W.fnOf "_law_way" "_law_way" (defArgs s__law_way) (defBody s__law_way) (defScope s__law_way) .none kV__law_way dc__law_way pm__law_way an__law_way cd__law_way ct__law_way), sl__law_way⟩) (c__law_way : PySem.W.codeIn K cd__law_way "_law_way" = true) (k__law_way : PySem.W.keepIn K (.ref f__law_way) = true)
    (a__law_told : PySem.W.nsIn K mainGlobals "_law_told" = some (some (.ref f__law_told))) (l__law_told : K.lookup f__law_told = some ⟨oc__law_told, od__law_told, .func (PySem.W.fnOf "_law_told" "_law_told" (defArgs s__law_told) (defBody s__law_told) (defScope s__law_told) .none kV__law_told dc__law_told pm__law_told an__law_told cd__law_told ct__law_told), sl__law_told⟩) (c__law_told : PySem.W.codeIn K cd__law_told "_law_told" = true) (k__law_told : PySem.W.keepIn K (.ref f__law_told) = true)
    (a_law : PySem.W.nsIn K mainGlobals "law" = some (some (.ref f_law))) (l_law : K.lookup f_law = some ⟨oc_law, od_law, .func (PySem.W.fnOf "law" "law" (defArgs s_law) (defBody s_law) (defScope s_law) .none kV_law dc_law pm_law an_law cd_law ct_law), sl_law⟩) (c_law : PySem.W.codeIn K cd_law "law" = true) (k_law : PySem.W.keepIn K (.ref f_law) = true)
    (z_len : PySem.W.nsIn K mainGlobals "len" = some none)
    (z_all : PySem.W.nsIn K mainGlobals "all" = some none)
    (z_isinstance : PySem.W.nsIn K mainGlobals "isinstance" = some none)
    (z_repr : PySem.W.nsIn K mainGlobals "repr" = some none)
    (z_str : PySem.W.nsIn K mainGlobals "str" = some none)
    (z_tuple : PySem.W.nsIn K mainGlobals "tuple" = some none)
    (z_bool : PySem.W.nsIn K mainGlobals "bool" = some none)
    (z_list : PySem.W.nsIn K mainGlobals "list" = some none)
    (z_max : PySem.W.nsIn K mainGlobals "max" = some none)
    (z_min : PySem.W.nsIn K mainGlobals "min" = some none)
    (z_range : PySem.W.nsIn K mainGlobals "range" = some none)
    (g_LETTERS : PySem.W.nsIn K mainGlobals "LETTERS" = some (some (.str "abcdefghijklmnopqrstuvwxyz" t_LETTERS)))
    (g_MOST_LETTERS : PySem.W.nsIn K mainGlobals "MOST_LETTERS" = some (some (.int 8 t_MOST_LETTERS)))
    (g_MOST_NAMES : PySem.W.nsIn K mainGlobals "MOST_NAMES" = some (some (.int 6 t_MOST_NAMES))) :
    ∃ fd : FuncData, (∀ (s : Shared) (v : Value), BindsTo s fd ⟨[v], []⟩ [("_law_script", v)]) ∧ ∀ base : Heap, K.In base → base.Ns mainGlobals mg → FnG l.prog w K mg base CX0 4 fa fd ["_law_script"] (spLaw K) := by
  have e := hfa.symm.trans (PySem.W.mg_of X G a_law)
  cases e
  let d_is_word : Df K mg "is_word" s_is_word ["thing"] := ⟨f_is_word, _, fun_mk (st := s_is_word) l_is_word c_is_word k_is_word, PySem.W.mg_of X G a_is_word, (fun_mk (st := s_is_word) l_is_word c_is_word k_is_word).binds (ps := ["thing"]) fun _ _ _ _ _ _ us hl => match us, hl with | [_], _ => rfl⟩
  let d_is_path : Df K mg "is_path" s_is_path ["thing"] := ⟨f_is_path, _, fun_mk (st := s_is_path) l_is_path c_is_path k_is_path, PySem.W.mg_of X G a_is_path, (fun_mk (st := s_is_path) l_is_path c_is_path k_is_path).binds (ps := ["thing"]) fun _ _ _ _ _ _ us hl => match us, hl with | [_], _ => rfl⟩
  let d__law_purse : Df K mg "_law_purse" s__law_purse ["_law_script", "_law_k"] := ⟨f__law_purse, _, fun_mk (st := s__law_purse) l__law_purse c__law_purse k__law_purse, PySem.W.mg_of X G a__law_purse, (fun_mk (st := s__law_purse) l__law_purse c__law_purse k__law_purse).binds (ps := ["_law_script", "_law_k"]) fun _ _ _ _ _ _ us hl => match us, hl with | [_, _], _ => rfl⟩
  let d__law_take : Df K mg "_law_take" s__law_take ["_law_purse_here", "_law_many"] := ⟨f__law_take, _, fun_mk (st := s__law_take) l__law_take c__law_take k__law_take, PySem.W.mg_of X G a__law_take, (fun_mk (st := s__law_take) l__law_take c__law_take k__law_take).binds (ps := ["_law_purse_here", "_law_many"]) fun _ _ _ _ _ _ us hl => match us, hl with | [_, _], _ => rfl⟩
  let d__law_is_word : Df K mg "_law_is_word" s__law_is_word ["_law_matter"] := ⟨f__law_is_word, _, fun_mk (st := s__law_is_word) l__law_is_word c__law_is_word k__law_is_word, PySem.W.mg_of X G a__law_is_word, (fun_mk (st := s__law_is_word) l__law_is_word c__law_is_word k__law_is_word).binds (ps := ["_law_matter"]) fun _ _ _ _ _ _ us hl => match us, hl with | [_], _ => rfl⟩
  let d__law_is_path : Df K mg "_law_is_path" s__law_is_path ["_law_matter"] := ⟨f__law_is_path, _, fun_mk (st := s__law_is_path) l__law_is_path c__law_is_path k__law_is_path, PySem.W.mg_of X G a__law_is_path, (fun_mk (st := s__law_is_path) l__law_is_path c__law_is_path k__law_is_path).binds (ps := ["_law_matter"]) fun _ _ _ _ _ _ us hl => match us, hl with | [_], _ => rfl⟩
  let d__law_name : Df K mg "_law_name" s__law_name ["_law_purse_here"] := ⟨f__law_name, _, fun_mk (st := s__law_name) l__law_name c__law_name k__law_name, PySem.W.mg_of X G a__law_name, (fun_mk (st := s__law_name) l__law_name c__law_name k__law_name).binds (ps := ["_law_purse_here"]) fun _ _ _ _ _ _ us hl => match us, hl with | [_], _ => rfl⟩
  let d__law_bent : Df K mg "_law_bent" s__law_bent ["_law_purse_here", "_law_name_here"] := ⟨f__law_bent, _, fun_mk (st := s__law_bent) l__law_bent c__law_bent k__law_bent, PySem.W.mg_of X G a__law_bent, (fun_mk (st := s__law_bent) l__law_bent c__law_bent k__law_bent).binds (ps := ["_law_purse_here", "_law_name_here"]) fun _ _ _ _ _ _ us hl => match us, hl with | [_, _], _ => rfl⟩
  let d__law_odd : Df K mg "_law_odd" s__law_odd ["_law_purse_here"] := ⟨f__law_odd, _, fun_mk (st := s__law_odd) l__law_odd c__law_odd k__law_odd, PySem.W.mg_of X G a__law_odd, (fun_mk (st := s__law_odd) l__law_odd c__law_odd k__law_odd).binds (ps := ["_law_purse_here"]) fun _ _ _ _ _ _ us hl => match us, hl with | [_], _ => rfl⟩
  let d__law_way : Df K mg "_law_way" s__law_way ["_law_purse_here"] := ⟨f__law_way, _, fun_mk (st := s__law_way) l__law_way c__law_way k__law_way, PySem.W.mg_of X G a__law_way, (fun_mk (st := s__law_way) l__law_way c__law_way k__law_way).binds (ps := ["_law_purse_here"]) fun _ _ _ _ _ _ us hl => match us, hl with | [_], _ => rfl⟩
  let d__law_told : Df K mg "_law_told" s__law_told ["_law_matter"] := ⟨f__law_told, _, fun_mk (st := s__law_told) l__law_told c__law_told k__law_told, PySem.W.mg_of X G a__law_told, (fun_mk (st := s__law_told) l__law_told c__law_told k__law_told).binds (ps := ["_law_matter"]) fun _ _ _ _ _ _ us hl => match us, hl with | [_], _ => rfl⟩
  let d_law : Df K mg "law" s_law ["_law_script"] := ⟨fa, _, fun_mk (st := s_law) l_law c_law k_law, PySem.W.mg_of X G a_law, (fun_mk (st := s_law) l_law c_law k_law).binds (ps := ["_law_script"]) fun _ _ _ _ _ _ us hl => match us, hl with | [_], _ => rfl⟩
  have T : Tx mg t_LETTERS t_MOST_LETTERS t_MOST_NAMES := ⟨PySem.W.mg_none_of X G z_len, PySem.W.mg_none_of X G z_all, PySem.W.mg_none_of X G z_isinstance, PySem.W.mg_none_of X G z_repr, PySem.W.mg_none_of X G z_str, PySem.W.mg_none_of X G z_tuple, PySem.W.mg_none_of X G z_bool, PySem.W.mg_none_of X G z_list, PySem.W.mg_none_of X G z_max, PySem.W.mg_none_of X G z_min, PySem.W.mg_none_of X G z_range, PySem.W.mg_of X G g_LETTERS, PySem.W.mg_of X G g_MOST_LETTERS, PySem.W.mg_of X G g_MOST_NAMES⟩
  refine ⟨d_law.fd, fun s v => .of_eq rfl, fun base _ _ => ?_⟩
  have G_take := ok_take (P := l.prog) (w := w) (base := base) T d__law_take
  have G_name := ok_name T d__law_name d__law_take G_take
  have G_bent := ok_bent T d__law_bent d__law_take G_take
  have G_odd := ok_odd T d__law_odd d__law_take G_take
  have G_way := ok_way T d__law_way d__law_take d__law_name d__law_odd d__law_bent G_take G_name G_odd G_bent
  have G_word := ok_is_word (P := l.prog) (w := w) (base := base) T d_is_word
  have G_path := ok_is_path (P := l.prog) (w := w) (base := base) T d_is_path
  have G_lword := ok_law_is_word (P := l.prog) (w := w) (base := base) T d__law_is_word
  have G_lpath := ok_law_is_path T d__law_is_path d__law_is_word G_lword
  have G_told := ok_told T d__law_told d__law_is_word d__law_is_path d_is_word d_is_path (d_is_word.kb1 fun _ _ _ _ _ _ _ => rfl) (d_is_path.kb1 fun _ _ _ _ _ _ _ => rfl) G_word G_path G_lword G_lpath
  have G_purse := ok_purse (P := l.prog) (w := w) (base := base) T d__law_purse
  exact ok_law T d_law d__law_told d__law_purse d__law_way d__law_name d__law_odd d__law_bent G_told G_purse G_name G_way G_odd G_bent
end K01
open PySem PySem.W PyProof.Rows
set_option maxRecDepth 100000 in
set_option maxHeartbeats 8000000 in
theorem PySem.Challenge.cw_farfiles_k01_words_and_paths_of_any_kind_holds : PySem.Challenge.rw_farfiles_k01_words_and_paths_of_any_kind.Holds := by
  w_on; o_law; k_head; (case hw => w_witness2)
  k_fill
  refine FB.walk_g (l := PySem.Challenge.rw_farfiles_k01_words_and_paths_of_any_kind) (n := 63) (k := 4) (x := "_law_script") (sp := fun w => K01.spLaw _) rfl (by decide) rfl ⟨rfl, by decide, by decide⟩ (fun w h Y => PySem.W.kIn_of Y) ?F (fun _ _ a ns hl _ hS => ⟨a, ns, rfl, hS, hl, fun _ => rfl⟩)
  case F =>
    intro w mg fa h KX G hmg
    refine' K01.all_mk KX G hmg ?a_is_word ?l_is_word ?c_is_word ?k_is_word ?a_is_path ?l_is_path ?c_is_path ?k_is_path ?a__law_purse ?l__law_purse ?c__law_purse ?k__law_purse ?a__law_take ?l__law_take ?c__law_take ?k__law_take ?a__law_is_word ?l__law_is_word ?c__law_is_word ?k__law_is_word ?a__law_is_path ?l__law_is_path ?c__law_is_path ?k__law_is_path ?a__law_name ?l__law_name ?c__law_name ?k__law_name ?a__law_bent ?l__law_bent ?c__law_bent ?k__law_bent ?a__law_odd ?l__law_odd ?c__law_odd ?k__law_odd ?a__law_way ?l__law_way ?c__law_way ?k__law_way ?a__law_told ?l__law_told ?c__law_told ?k__law_told ?a_law ?l_law ?c_law ?k_law ?z_len ?z_all ?z_isinstance ?z_repr ?z_str ?z_tuple ?z_bool ?z_list ?z_max ?z_min ?z_range ?g_LETTERS ?g_MOST_LETTERS ?g_MOST_NAMES
    case a_is_word => k_is
    case l_is_word => k_is
    case c_is_word => k_is
    case k_is_word => k_is
    case a_is_path => k_is
    case l_is_path => k_is
    case c_is_path => k_is
    case k_is_path => k_is
    case a__law_purse => k_is
    case l__law_purse => k_is
    case c__law_purse => k_is
    case k__law_purse => k_is
    case a__law_take => k_is
    case l__law_take => k_is
    case c__law_take => k_is
    case k__law_take => k_is
    case a__law_is_word => k_is
    case l__law_is_word => k_is
    case c__law_is_word => k_is
    case k__law_is_word => k_is
    case a__law_is_path => k_is
    case l__law_is_path => k_is
    case c__law_is_path => k_is
    case k__law_is_path => k_is
    case a__law_name => k_is
    case l__law_name => k_is
    case c__law_name => k_is
    case k__law_name => k_is
    case a__law_bent => k_is
    case l__law_bent => k_is
    case c__law_bent => k_is
    case k__law_bent => k_is
    case a__law_odd => k_is
    case l__law_odd => k_is
    case c__law_odd => k_is
    case k__law_odd => k_is
    case a__law_way => k_is
    case l__law_way => k_is
    case c__law_way => k_is
    case k__law_way => k_is
    case a__law_told => k_is
    case l__law_told => k_is
    case c__law_told => k_is
    case k__law_told => k_is
    case a_law => k_is
    case l_law => k_is
    case c_law => k_is
    case k_law => k_is
    case z_len => k_is
    case z_all => k_is
    case z_isinstance => k_is
    case z_repr => k_is
    case z_str => k_is
    case z_tuple => k_is
    case z_bool => k_is
    case z_list => k_is
    case z_max => k_is
    case z_min => k_is
    case z_range => k_is
    case g_LETTERS => k_is
    case g_MOST_LETTERS => k_is
    case g_MOST_NAMES => k_is

