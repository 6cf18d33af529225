import PyProof.Rows.All
import Wide.All
import OpenK.AllK
import Wide.FinOn
import HandS.ForMost
import HandS.IsInst
import HandS.TupAny
import HandS.TupMul
import HandS.Wide
import PyProof.ReprRoads
import KE.GoesEnum
import PyProof.EqKinds
import HandS.FStrTup
import PyProof.FitsInt
import HandS.Walk
import PyProof.NeKinds
import HandS.ListItems
import KE.KItemsList
import PyProof.ZipIter
import KE.KDictPairs
import HandS.Flow
import HandS.Conv
import HandS.Sort
import HandS.WordsDict
import HandS.DeepEq
import PySem.Challenge.RW_heldapart_k09_rings_and_long_lists
set_option Elab.async false
set_option linter.all false
set_option maxRecDepth 100000
set_option maxHeartbeats 4000000
/-! Calls that carry the word «no repr is under way», so that repr of data is known. -/
namespace L2.Hx
open PySem PySem.Spec PyProof.Rows

/-- FnOk, for callers around whom no guard stands -/
structure FnG (P : Program) (w : World) (K : PySem.W.Frag) (mg : Str → Option Value) (base : Heap) (CX : CXT) (k : Nat) (f : Addr) (fd : FuncData) (ps : List Str) (sp : Sp) : Prop where
  ln : ∀ vs H Q E, sp vs H Q E → vs.length = ps.length
  go : ∀ (A : Around) (outer : List Env) (s : Shared) (H : Hp) (args : Args) (us : List Value) (vs : List V) (Q : VK) (E : XK), A.guards = some [] → Room k A → Env0 P w K mg base A outer s H →
    BindsTo s fd args (ps.zip us) → Vals vs us → sp vs H Q E → codeAny (model P w) A (.call (.ref f) args) (CR CX outer P w H s Q E) s

section
variable {P : Program} {w : World} {K : PySem.W.Frag} {mg : Str → Option Value} {base : Heap} {CX : CXT} {f : Addr} {fd : FuncData} {ps : List Str} {sp : Sp} {k : Nat}
theorem FnG.ofOk (F : FnOk P w K mg base CX k f fd ps sp) : FnG P w K mg base CX k f fd ps sp :=
  ⟨F.len, fun A outer s H args us vs Q E _ hr e b r h => F.run A outer s H args us vs Q E hr e b r h⟩
theorem FnG.mono {j : Nat} (F : FnG P w K mg base CX j f fd ps sp) (h : j ≤ k) : FnG P w K mg base CX k f fd ps sp :=
  ⟨F.ln, fun A outer s H args us vs Q E hg hr => F.go A outer s H args us vs Q E hg (hr.mono h)⟩
theorem FnG.imp {sp' : Sp} (F : FnG P w K mg base CX k f fd ps sp) (h : ∀ vs H Q E, sp' vs H Q E → sp vs H Q E) : FnG P w K mg base CX k f fd ps sp' :=
  ⟨fun vs H Q E q => F.ln vs H Q E (h _ _ _ _ q), fun A outer s H args us vs Q E hg hr e b r q => F.go A outer s H args us vs Q E hg hr e b r (h _ _ _ _ q)⟩
/-- a def by its body -/
theorem fng_of {name qual : Str} {params : Arguments} {body : List Stmt} {scope : Scope} {dV kV doc pm cdv ct oc : Value} {an od : Option Addr} {osl : Array (Option Value)} {N : List Str}
    (lk : K.lookup f = some ⟨oc, od, .func (PySem.W.fnOf name qual params body scope dV kV doc pm an cdv ct), osl⟩) (hcd : PySem.W.codeIn K cdv qual = true) (S : FnScope N ps scope)
    (hn : ∀ vs H Q E, sp vs H Q E → vs.length = ps.length)
    (hbody : ∀ (A : Around) (outer : List Env) (s : Shared) (H : Hp) (vs : List V) (Q : VK) (E : XK), A.guards = some [] → Room k (A.deeper (envOfC qual scope s.heap.objs.size f cdv)) → sp vs H Q E →
      ∃ t, PSs (cxOf CX P w K mg base N qual scope f cdv A outer s H E) body t ∧ t { nx := fun _ H' => Q .non H', rt := Q } (start N vs) H) :
    FnG P w K mg base CX (k + 1) f (PySem.W.fnOf name qual params body scope dV kV doc pm an cdv ct) ps sp := by
  refine ⟨hn, fun A outer s H args us vs Q E hgd hr en hbd rv hsp => ?_⟩
  have hlen := hn _ _ _ _ hsp
  have kin : K.In s.heap := en.mod.kin.keeps fun b o q => (en.bs b o q).1
  have nol : s.heap.NoLimit := en.mod.nolimit.keeps fun b o q => (en.bs b o q).1
  have kinds : ∀ y ∈ ps.zip us, scope.names.lookup y.1 = some .local ∨ (scope.names.lookup y.1 = some .cell ∧ ((cellsFrom (s.heap.objs.size + 1) scope.names []).lookup y.1).isSome = true) := fun ⟨n, v⟩ hy =>
    (S.par n (List.of_mem_zip hy).1).elim (fun z => .inl z) fun z => .inr ⟨z, PySem.W.cellsFrom_some _ _ _ (.inl z)⟩
  refine codeAny_call_function hr.depth (kin _ _ lk) rfl S.co S.gen rfl (PySem.W.codeRec_of kin hcd) (hbd _ _ _ _ ?_)
  refine wpAny_newFunctionEnv_cells S.kind kinds fun env he s1 x => ?_
  subst he
  refine ⟨nol.keeps x.toInCall.keep, codeAny_func ?_⟩
  obtain ⟨t, ht, hq⟩ := hbody A outer s H vs Q E hgd (hr.deeper _) hsp
  have J0 := inv_start (CX := CX) (P := P) (w := w) (K := K) (mg := mg) (base := base) (E := E) S hr.hd en hlen rv x
  refine wpAny_mono (ht.run [] s1 (start N vs) H _ J0 hq) (fun fl s2 hs => ?_) fun e s2 hs => hs
  cases fl with
  | ret u => obtain ⟨v, σ', H', J, r, q⟩ := hs; exact ⟨v, H', J.os, J.bare, J.base, J.hok, r, q⟩
  | next => obtain ⟨σ', H', J, q⟩ := hs; exact ⟨V.non, H', J.os, J.bare, J.base, J.hok, rfl, q⟩
  | brk => obtain ⟨_, _, _, q⟩ := hs; exact q.elim
  | cont => obtain ⟨_, _, _, q⟩ := hs; exact q.elim
/-- a def of the text that lets nothing out -/
theorem okG {x qual : Str} {st : Stmt} {N : List Str} (F : Fun K x qual st f fd) (S : FnScope N ps (defScope st)) (hn : ∀ vs H Q E, sp vs H Q E → vs.length = ps.length)
    (hbody : ∀ (cdv : Value) (A : Around) (outer : List Env) (s : Shared) (H : Hp) (vs : List V) (Q : VK) (E : XK), (A.deeper (envOfC qual (defScope st) s.heap.objs.size f cdv)).guards = some [] → Room k (A.deeper (envOfC qual (defScope st) s.heap.objs.size f cdv)) → sp vs H Q E →
      ∃ t, PSs (cxOf CX0 P w K mg base N qual (defScope st) f cdv A outer s H E).nox (defBody st) t ∧ t { nx := fun _ H' => Q .non H', rt := Q } (start N vs) H) :
    FnG P w K mg base CX0 (k + 1) f fd ps sp := by
  obtain ⟨oc, od, kV, doc, pm, an, cdv, ct, osl, rfl, lk, hcd⟩ := F.ex
  refine fng_of lk hcd S hn fun A outer s H vs Q E hgd hr hsp => ?_
  obtain ⟨t, h, q⟩ := hbody cdv A outer s H vs Q E hgd hr hsp
  exact ⟨t, h.nox, q⟩
end

section
variable {X : Cx} {CX : CXT} {k : Nat} {f : Addr} {fd : FuncData} {ps ks : List Str} {sp : Sp} {dvs : List V} {ds : List Value} {E : XK} {x : Str} {p pos : Pos} {e : Expr} {es : List Expr} {kws : List Keyword} {t tk : TA}
/-- the callee runs -/
theorem run_g {pins : List (Addr × Obj)} {σ : St} {H : Hp} {s : Shared} {Q : VK} {us : List Value} {vs : List V} (F : FnG X.prog X.w X.K X.mg X.base CX k f fd ps sp) (hgd : X.A.guards = some []) (hr : Room k X.A) (hb : Binds X.K fd ps ds) (hd : Vals dvs ds) (hx : Passes CX X E)
    (I : Inv X pins σ H s) (r : Vals vs us) (h : sp (vs ++ dvs) H Q E) : wpAny (model X.prog X.w) X.A (call (.ref f) us) (EP X pins σ Q) X.xe s := by
  have rd : Vals (vs ++ dvs) (us ++ ds) := r.append hd
  have hlen : (us ++ ds).length = ps.length := rd.length.symm.trans (F.ln _ _ _ _ h)
  refine wpAny_call (codeAny_mono (F.go X.A X.stack s H ⟨us, []⟩ (us ++ ds) (vs ++ dvs) Q E hgd hr I.env0 (hb s us I.kIn hlen) rd h) fun z s2 hq => ?_)
  cases z with
  | error er => exact hx pins σ H s er s2 I hq
  | ok fl =>
    cases fl with
    | ret u => exact I.after hq
    | next => exact hq.elim
    | brk => exact hq.elim
    | cont => exact hq.elim
theorem pe_g (F : FnG X.prog X.w X.K X.mg X.base CX k f fd ps sp) (hgd : X.A.guards = some []) (hr : Room k X.A) (hg : Gl X x) (hm : X.mg x = some (.ref f)) (hk : PySem.W.keepIn X.K (.ref f) = true) (hb : Binds X.K fd ps ds) (hd : Vals dvs ds) (hx : Passes CX X E)
    (ha : PA X (e :: es) t) (hdb : (x == ("__debug__" : Str)) = false := by decide) (he : starEach (e :: es) X.env = (false, eval e X.env) :: starEach es X.env := by rfl) (hpl : (backTo pos (starEach es X.env)).any (·.1) = false := by rfl) :
    PE X (.Call (.Name x p) (e :: es) [] pos) (tCall sp dvs E t) := ⟨fun pins s σ H Q I h =>
  wpAny_Call_Name_kw (ld_glob I hg hm (PySem.W.callWith_K (h₀ := X.base) I.ok.mod.kin hk (thn (ha.run pos pins s σ H _ I h) fun us s1 ⟨vs, H1, I1, r, q⟩ => ⟨I1.kIn, run_g F hgd hr hb hd hx I1 r q⟩) he hpl) hdb)⟩
theorem pe_g0 (F : FnG X.prog X.w X.K X.mg X.base CX k f fd ps sp) (hgd : X.A.guards = some []) (hr : Room k X.A) (hg : Gl X x) (hm : X.mg x = some (.ref f)) (hk : PySem.W.keepIn X.K (.ref f) = true) (hb : Binds X.K fd ps ds) (hd : Vals dvs ds) (hx : Passes CX X E)
    (hdb : (x == ("__debug__" : Str)) = false := by decide) : PE X (.Call (.Name x p) [] [] pos) (tCall sp dvs E tNil) := ⟨fun pins s σ H Q I h =>
  wpAny_Call_Name_kw (ld_glob I hg hm (PySem.W.callWith_K0 I.kIn hk (run_g (us := []) F hgd hr hb hd hx I .nil h)) hdb)⟩
/-- f(k = v, ..) by names alone: hb puts the values in the parameters' order -/
def KwBinds (K : PySem.W.Frag) (fd : FuncData) (ps ks : List Str) (g : {α : Type} → List α → List α) : Prop :=
  ∀ (s : Shared) (ws : List Value), K.In s.heap → ws.length = ps.length → BindsTo s fd ⟨[], ks.zip ws⟩ (ps.zip (g ws))
def tKw (sp : Sp) (g : {α : Type} → List α → List α) (n : Nat) (E : XK) (tk : TA) : TE := fun σ H Q => tk σ H fun zs H2 => zs.length = n ∧ sp (g zs) H2 Q E
theorem pe_kw {g : {α : Type} → List α → List α} (F : FnG X.prog X.w X.K X.mg X.base CX k f fd ps sp) (hgd : X.A.guards = some []) (hr : Room k X.A) (hg : Gl X x) (hm : X.mg x = some (.ref f)) (hk : PySem.W.keepIn X.K (.ref f) = true) (hb : KwBinds X.K fd ps ks g) (hx : Passes CX X E)
    (hkw : PK X kws tk) (hrel : ∀ {zs : List V} {ws : List Value}, Vals zs ws → Vals (g zs) (g ws)) (hall : (backToKw pos (keywordEach kws X.env)).all (·.1.isSome) = true := by rfl) (hks : (backToKw pos (keywordEach kws X.env)).filterMap (·.1) = ks := by rfl) (hdb : (x == ("__debug__" : Str)) = false := by decide)
    (hpl : ((backTo pos (starEach [] X.env)).any (·.1) || (backToKw pos (keywordEach kws X.env)).any (·.1.isNone)) = false := by rfl) :
    PE X (.Call (.Name x p) [] kws pos) (tKw sp g ps.length E tk) := by
  refine ⟨fun pins s σ H Q I h => wpAny_Call_Name_kw (ld_glob I hg hm ?_ hdb)⟩
  refine PySem.W.callWith_KW0 (h₀ := X.base) I.ok.mod.kin hk hall ?_ hpl
  refine thn (hkw.run pos pins s σ H _ I h) fun ws s2 ⟨zs, H2, I2, rz, hz, q2⟩ => ⟨I2.kIn, ?_⟩
  rw [hks]
  have rg := hrel rz
  refine wpAny_call (codeAny_mono (F.go X.A X.stack s2 H2 ⟨[], ks.zip ws⟩ (g ws) (g zs) Q E hgd hr I2.env0 (hb s2 ws I2.kIn (rz.length.symm.trans hz)) rg q2) fun z s3 hq => ?_)
  cases z with
  | error er => exact hx pins σ H2 s2 er s3 I2 hq
  | ok fl =>
    cases fl with
    | ret u => exact I2.after hq
    | next => exact hq.elim
    | brk => exact hq.elim
    | cont => exact hq.elim
end
end L2.Hx

/-! Data of any depth, dicts too, over a part G of the tracked heap; repr of data. -/
namespace L2.Hx
open PySem PySem.Spec PyProof.Rows

def keyD : Key → PyData
  | .inl i => .int i
  | .inr x => .str x
mutual
inductive Da (K : PySem.W.Frag) (G : Hp) : V → PyData → Prop
  | non : Da K G .non .none
  | bl (b : Bool) : Da K G (.bl b) (.bool b)
  | int (i : Int) : Da K G (.int i) (.int i)
  | str (x : Str) : Da K G (.str x) (.str x)
  | lst {a : Addr} {xs : List V} {ds : List PyData} : G a = some (.lst xs) → DaAll K G xs ds → Da K G (.ref a) (.list ds)
  | tup {a : Addr} {xs : List V} {ds : List PyData} : SqT K G a xs → DaAll K G xs ds → Da K G (.ref a) (.tuple ds)
  | dct {a : Addr} {kvs : List (Key × V)} {ds : List PyData} : G a = some (.dK kvs) → DaAll K G (kvs.map (·.2)) ds → Da K G (.ref a) (.dict ((kvs.map fun p => keyD p.1).zip ds))
inductive DaAll (K : PySem.W.Frag) (G : Hp) : List V → List PyData → Prop
  | nil : DaAll K G [] []
  | cons {v : V} {vs : List V} {d : PyData} {ds : List PyData} : Da K G v d → DaAll K G vs ds → DaAll K G (v :: vs) (d :: ds)
end
section
variable {K : PySem.W.Frag} {G G' : Hp}
theorem DaAll.length : ∀ {vs : List V} {ds : List PyData}, DaAll K G vs ds → vs.length = ds.length
  | _, _, .nil => rfl
  | _, _, .cons _ t => by rw [List.length_cons, List.length_cons, DaAll.length t]
theorem sameT {a : Addr} {xs : List V} (e : Same G G') (h : SqT K G a xs) : SqT K G' a xs := by
  rcases h with (q | ⟨o, q⟩) | q
  · exact .inl (.inl (e _ _ q))
  · exact .inl (.inr ⟨o, e _ _ q⟩)
  · exact .inr q
mutual
theorem Da.mono (e : Same G G') : ∀ {v : V} {d : PyData}, Da K G v d → Da K G' v d
  | _, _, .non => .non
  | _, _, .bl b => .bl b
  | _, _, .int i => .int i
  | _, _, .str x => .str x
  | _, _, .lst h t => .lst (e _ _ h) (DaAll.mono e t)
  | _, _, .tup h t => .tup (sameT e h) (DaAll.mono e t)
  | _, _, .dct h t => .dct (e _ _ h) (DaAll.mono e t)
theorem DaAll.mono (e : Same G G') : ∀ {vs : List V} {ds : List PyData}, DaAll K G vs ds → DaAll K G' vs ds
  | _, _, .nil => .nil
  | _, _, .cons h t => .cons (Da.mono e h) (DaAll.mono e t)
end
theorem DaAll.append : ∀ {vs ws : List V} {ds es : List PyData}, DaAll K G vs ds → DaAll K G ws es → DaAll K G (vs ++ ws) (ds ++ es)
  | _, _, _, _, .nil, s => s
  | _, _, _, _, .cons h t, s => .cons h (DaAll.append t s)
theorem DaAll.get : ∀ {vs : List V} {ds : List PyData} {i : Nat} {v : V}, DaAll K G vs ds → vs[i]? = some v → ∃ d, ds[i]? = some d ∧ Da K G v d
  | _, _, 0, _, .cons h t, e => by
    rw [List.getElem?_cons_zero] at e
    cases e
    exact ⟨_, rfl, h⟩
  | _, _, i + 1, v, .cons h t, e => by
    rw [List.getElem?_cons_succ] at e ⊢
    exact DaAll.get t e
theorem DaAll.mem {vs : List V} {ds : List PyData} {v : V} (h : DaAll K G vs ds) (m : v ∈ vs) : ∃ d, d ∈ ds ∧ Da K G v d := by
  obtain ⟨i, e⟩ := List.mem_iff_getElem?.mp m
  obtain ⟨d, e2, q⟩ := h.get e
  exact ⟨d, List.mem_of_getElem? e2, q⟩
theorem DaAll.take : ∀ {vs : List V} {ds : List PyData} (n : Nat), DaAll K G vs ds → DaAll K G (vs.take n) (ds.take n)
  | _, _, 0, _ => .nil
  | _, _, _ + 1, .nil => .nil
  | _, _, n + 1, .cons h t => .cons h (DaAll.take n t)
theorem DaAll.drop : ∀ {vs : List V} {ds : List PyData} (n : Nat), DaAll K G vs ds → DaAll K G (vs.drop n) (ds.drop n)
  | _, _, 0, h => h
  | _, _, _ + 1, .nil => .nil
  | _, _, n + 1, .cons _ t => DaAll.drop n t
theorem DaAll.rep {v : V} {d : PyData} (h : Da K G v d) : ∀ n : Nat, DaAll K G (List.replicate n v) (List.replicate n d)
  | 0 => .nil
  | n + 1 => .cons h (DaAll.rep h n)
theorem DaAll.set {v : V} {d : PyData} (h : Da K G v d) : ∀ {vs : List V} {ds : List PyData} (i : Nat), DaAll K G vs ds → DaAll K G (vs.set i v) (ds.set i d)
  | _, _, _, .nil => .nil
  | _, _, 0, .cons _ t => .cons h t
  | _, _, i + 1, .cons q t => .cons q (DaAll.set h i t)
theorem DaAll.flat {vs : List V} {ds : List PyData} (h : DaAll K G vs ds) : ∀ n : Nat, DaAll K G (List.replicate n vs).flatten (List.replicate n ds).flatten
  | 0 => .nil
  | n + 1 => by
    rw [List.replicate_succ, List.replicate_succ, List.flatten_cons, List.flatten_cons]
    exact h.append (DaAll.flat h n)
end

theorem pairs_keys {P : Program} {w : World} : ∀ {es : List DictEntry} {kvs : List (Key × V)} {vs : List (Key × Value)}, KV kvs vs → Pairs (mixKind P w) es vs →
    Vals (kvs.map fun p => kV p.1) (es.map (·.key)) ∧ Vals (kvs.map (·.2)) (es.map (·.val))
  | _, _, _, .nil, .nil => ⟨.nil, .nil⟩
  | e :: es, (k, v) :: kvs, (k', u) :: vs, .cons ⟨r1, r2⟩ t, .cons h1 h2 h3 => by
    obtain ⟨a, b⟩ := pairs_keys t h3
    refine ⟨.cons ?_ a, .cons ?_ b⟩
    · have r1 : k = k' := r1
      have h1 : keyIs k' e.key = true := h1
      subst r1
      rcases keyIs_shape h1 with ⟨i, tk, rfl, q⟩ | ⟨x, tk, rfl, q⟩
      · exact ⟨tk, q⟩
      · exact ⟨tk, q⟩
    · show RelV v e.val
      rw [h2]
      exact r2
theorem keyD_da {K : PySem.W.Frag} {G : Hp} : ∀ (ks : List Key), DaAll K G (ks.map kV) (ks.map keyD)
  | [] => .nil
  | .inl i :: r => .cons (.int i) (keyD_da r)
  | .inr x :: r => .cons (.str x) (keyD_da r)

section
variable {X : Cx} {pins : List (Addr × Obj)} {σ : St} {H G : Hp} {s : Shared}
theorem zip_fst : ∀ {as bs : List PyData}, as.length = bs.length → (as.zip bs).map (·.1) = as
  | [], _, _ => by simp
  | a :: as, b :: bs, h => by
    rw [List.zip_cons_cons, List.map_cons, zip_fst (by simpa using h)]
theorem zip_snd : ∀ {as bs : List PyData}, as.length = bs.length → (as.zip bs).map (·.2) = bs
  | [], [], _ => rfl
  | [], _ :: _, h => by simp at h
  | a :: as, [], h => by simp at h
  | a :: as, b :: bs, h => by
    rw [List.zip_cons_cons, List.map_cons, zip_snd (by simpa using h)]
/-- what stands at a dict's address -/
theorem dict_at {a : Addr} {kvs : List (Key × V)} (I : Inv X pins σ H s) (h : H a = some (.dK kvs)) : ∃ o es n, s.heap.get? a = some o ∧ o.cls = .type "dict" ∧ o.data = .dict es n ∧ (a == sysModules) = false ∧
    Vals (kvs.map fun p => kV p.1) (es.toList.map (·.key)) ∧ Vals (kvs.map (·.2)) (es.toList.map (·.val)) := by
  obtain ⟨_, hs, vs, r, o, es, ep, h1, h2, h3, _, h5, _⟩ := (show ObjOk X.prog X.w H s.heap a (.dK kvs) from I.hok a _ h)
  obtain ⟨q1, q2⟩ := pairs_keys r h5
  exact ⟨o, es, ep, h1, h2.1, h3, hs, q1, q2⟩
abbrev RkOf (X : Cx) (h : Heap) (u : Value) (d : PyData) : Prop := ∃ as bs, Reads h u d as ∧ ReadAtMost h d.depth bs ∧ ReprK X.prog X.w bs h d.depth u d.shown
abbrev RkAll (X : Cx) (h : Heap) (us : List Value) (ds : List PyData) : Prop := ∃ as bs, ReadsAll h us ds as ∧ ReadAtMost h (PyData.depthAll ds) bs ∧ ReprAllK X.prog X.w bs h (PyData.depthAll ds) us (PyData.shownAll ds)
theorem no_addr {h : Heap} {n : Nat} : ReadAtMost h n [] := fun b q => absurd q List.not_mem_nil
theorem rk_keys : ∀ (ks : List Key) (us : List Value), Vals (ks.map kV) us → PyData.showableAll (ks.map keyD) = true → (∀ t ∈ PyData.shownAll (ks.map keyD), t.length ≤ sizeLine) → RkAll X s.heap us (ks.map keyD)
  | [], _, .nil, _, _ => ⟨_, [], .nil, no_addr, .nil⟩
  | k :: ks, _, .cons r t, hs, hz => by
    rw [List.map_cons, PyData.showableAll, Bool.and_eq_true] at hs
    rw [List.map_cons] at hz ⊢
    unfold PyData.shownAll at hz
    obtain ⟨as, bs, q1, q2, q3⟩ := rk_keys ks _ t hs.2 fun z m => hz z (List.mem_cons_of_mem _ m)
    have h0 := hz _ List.mem_cons_self
    cases k with
    | inl i =>
      obtain ⟨tk, rfl⟩ := r
      exact ⟨_, bs, .cons (.int i tk) q1, q2.mono (Nat.le_max_right _ _), .cons (.of_is (ReprIs.int tk (by simpa [keyD, PyData.showable] using hs.1)) _ _ _) (q3.more_le (fun _ m => m) (Nat.le_max_right _ _))⟩
    | inr x =>
      obtain ⟨tk, rfl⟩ := r
      exact ⟨_, bs, .cons (.str x tk) q1, q2.mono (Nat.le_max_right _ _), .cons (.of_is (ReprIs.str x tk (by simpa only [keyD, PyData.shown] using h0)) _ _ _) (q3.more_le (fun _ m => m) (Nat.le_max_right _ _))⟩
/-- the entries of a dict as repr reads them -/
theorem rk_entries {es : List DictEntry} {kvs : List (Key × V)} {ds : List PyData} (vk : Vals (kvs.map fun p => kV p.1) (es.map (·.key))) (hl : kvs.length = ds.length)
    (hv : PyData.showableAll ds = true → (∀ t ∈ PyData.shownAll ds, t.length ≤ sizeLine) → RkAll X s.heap (es.map (·.val)) ds) (hs : PyData.showableKv ((kvs.map fun p => keyD p.1).zip ds) = true)
    (hz : (dictText (PyData.shownKv ((kvs.map fun p => keyD p.1).zip ds))).length ≤ sizeLine) :
    ∃ as1 as2 bs, ReadsAll s.heap (es.map (·.key)) (((kvs.map fun p => keyD p.1).zip ds).map (·.1)) as1 ∧ ReadsAll s.heap (es.map (·.val)) (((kvs.map fun p => keyD p.1).zip ds).map (·.2)) as2 ∧
      ReadAtMost s.heap (PyData.depthKv ((kvs.map fun p => keyD p.1).zip ds)) bs ∧ ReprEntriesK X.prog X.w bs s.heap (PyData.depthKv ((kvs.map fun p => keyD p.1).zip ds)) es (PyData.shownKv ((kvs.map fun p => keyD p.1).zip ds)) := by
  have hll : (kvs.map fun p => keyD p.1).length = ds.length := by rw [List.length_map]; exact hl
  generalize hkv : (kvs.map fun p => keyD p.1).zip ds = kv at hs hz ⊢
  obtain ⟨s1, s2⟩ := PyData.showableKv_split kv hs
  have e1 : kv.map (·.1) = kvs.map fun p => keyD p.1 := by rw [← hkv]; exact zip_fst hll
  have e2 : kv.map (·.2) = ds := by rw [← hkv]; exact zip_snd hll
  have ek : (kvs.map (·.1)).map kV = kvs.map fun p => kV p.1 := by rw [List.map_map]; rfl
  have ed : (kvs.map (·.1)).map keyD = kvs.map fun p => keyD p.1 := by rw [List.map_map]; rfl
  have z1 : ∀ t ∈ PyData.shownAll (kv.map (·.1)), t.length ≤ sizeLine := fun t ht => let ⟨p, hp, hl⟩ := PyData.shownKv_key_le kv t ht; Nat.le_trans hl (Nat.le_trans (dictText_mem_le hp) hz)
  have z2 : ∀ t ∈ PyData.shownAll (kv.map (·.2)), t.length ≤ sizeLine := fun t ht => let ⟨p, hp, hl⟩ := PyData.shownKv_val_le kv t ht; Nat.le_trans hl (Nat.le_trans (dictText_mem_le hp) hz)
  have m1 := PyData.depthAll_keys_le kv
  have m2 := PyData.depthAll_vals_le kv
  rw [PyData.shownKv_eq]
  rw [e1] at s1 z1 m1 ⊢
  rw [e2] at s2 z2 m2 ⊢
  rw [← ed] at s1 z1 m1 ⊢
  rw [← ek] at vk
  obtain ⟨as1, b1, r1, a1, k1⟩ := rk_keys (X := X) (s := s) _ _ vk s1 z1
  obtain ⟨as2, b2, r2, a2, k2⟩ := hv s2 z2
  exact ⟨as1, as2, b1 ++ b2, r1, r2, (a1.mono m1).append (a2.mono m2), ReprEntriesK.of_two es _ _ (k1.more_le (fun b q => List.mem_append_left _ q) m1) (k2.more_le (fun b q => List.mem_append_right _ q) m2)⟩
mutual
theorem Da.rk (I : Inv X pins σ H s) (sm : Same G H) : ∀ {d : PyData} {v : V} {u : Value}, Da X.K G v d → RelV v u → d.showable = true → d.shown.length ≤ sizeLine → RkOf X s.heap u d
  | _, _, _, .non, r, _, _ => by
    cases r
    exact ⟨_, [], .none, no_addr, by simp only [PyData.shown]; exact .of_is ReprIs.none _ _ _⟩
  | _, _, _, .bl b, r, _, _ => by
    cases r
    exact ⟨_, [], .bool b, no_addr, by simp only [PyData.shown]; exact .of_is (ReprIs.bool b) _ _ _⟩
  | _, _, _, .int i, r, hs, _ => by
    obtain ⟨t, rfl⟩ := r
    exact ⟨_, [], .int i t, no_addr, by simp only [PyData.shown]; exact .of_is (ReprIs.int t (by simpa [PyData.showable] using hs)) _ _ _⟩
  | _, _, _, .str x, r, _, hz => by
    obtain ⟨t, rfl⟩ := r
    exact ⟨_, [], .str x t, no_addr, by simp only [PyData.shown]; exact .of_is (ReprIs.str x t (by simpa only [PyData.shown] using hz)) _ _ _⟩
  | .list ds, .ref a, _, .lst h t, r, hs, hz => by
    cases r
    have hz2 : (listText (PyData.shownAll ds)).length ≤ sizeLine := by simpa only [PyData.shown] using hz
    obtain ⟨_, its, n, rv, e⟩ := (show ObjOk X.prog X.w H s.heap a (.lst _) from I.hok a _ (sm _ _ h))
    obtain ⟨as, bs, q1, q2, q3⟩ := DaAll.rk I sm t rv (by simpa [PyData.showable] using hs) fun z hz' => Nat.le_trans (listText_mem_le hz') hz2
    have rd : Reads s.heap (.ref a) (.list ds) _ := .list e rfl rfl q1
    have hna : a ∉ bs := not_mem_of_deeper rd (by simp only [PyData.depth]; omega) q2
    refine ⟨_, a :: bs, rd, ReadAtMost.cons rd (by simp only [PyData.depth]; omega) q2, ?_⟩
    simp only [PyData.depth, PyData.shown]
    cases its with
    | nil =>
      cases q1
      simp only [PyData.shownAll, listText_nil]
      exact ReprK.listEmpty e rfl rfl
    | cons y l => exact ReprK.list e rfl rfl hna (by simpa using q3.length_eq) fun i z e2 => q3.item i z (by simpa using e2)
  | .tuple ds, .ref a, _, .tup h t, r, hs, hz => by
    cases r
    have hz2 : (tupleText (PyData.shownAll ds)).length ≤ sizeLine := by simpa only [PyData.shown] using hz
    obtain ⟨its, rv, ⟨o, ho, hc, n, hd⟩, _⟩ := I.tuple (sameT sm h)
    obtain ⟨as, bs, q1, q2, q3⟩ := DaAll.rk I sm t rv (by simpa [PyData.showable] using hs) fun z hz' => Nat.le_trans (tupleText_mem_le hz') hz2
    have rd : Reads s.heap (.ref a) (.tuple ds) _ := .tuple ho hc hd q1
    have hna : a ∉ bs := not_mem_of_deeper rd (by simp only [PyData.depth]; omega) q2
    refine ⟨_, a :: bs, rd, ReadAtMost.cons rd (by simp only [PyData.depth]; omega) q2, ?_⟩
    simp only [PyData.depth, PyData.shown]
    exact ReprK.tuple ho hc hd hna q3
  | _, .ref a, _, @Da.dct _ _ _ kvs ds h t, r, hs, hz => by
    cases r
    have hz2 : (dictText (PyData.shownKv ((kvs.map fun p => keyD p.1).zip ds))).length ≤ sizeLine := by simpa only [PyData.shown] using hz
    obtain ⟨o, es, n, ho, hc, hd, hsys, vk, vv⟩ := dict_at I (sm _ _ h)
    obtain ⟨as1, as2, bs, r1, r2, a3, k3⟩ := rk_entries (X := X) (s := s) vk (by rw [← t.length, List.length_map]) (fun s2 z2 => DaAll.rk I sm t vv s2 z2) (by simpa [PyData.showable] using hs) hz2
    have rd : Reads s.heap (.ref a) (.dict ((kvs.map fun p => keyD p.1).zip ds)) _ := .dict ho hc hd r1 r2
    have hna : a ∉ bs := not_mem_of_deeper rd (by simp only [PyData.depth]; omega) a3
    refine ⟨_, a :: bs, rd, ReadAtMost.cons rd (by simp only [PyData.depth]; omega) a3, ?_⟩
    simp only [PyData.depth, PyData.shown]
    exact ReprK.dict ho hc hd hsys hna k3
theorem DaAll.rk (I : Inv X pins σ H s) (sm : Same G H) : ∀ {ds : List PyData} {vs : List V} {us : List Value}, DaAll X.K G vs ds → Vals vs us → PyData.showableAll ds = true → (∀ t ∈ PyData.shownAll ds, t.length ≤ sizeLine) → RkAll X s.heap us ds
  | _, _, _, .nil, .nil, _, _ => ⟨_, [], .nil, no_addr, .nil⟩
  | _, _, _, .cons h t, .cons r rs, hs, hz => by
    rw [PyData.showableAll, Bool.and_eq_true] at hs
    unfold PyData.shownAll at hz
    obtain ⟨as1, b1, q1, a1, k1⟩ := Da.rk I sm h r hs.1 (hz _ List.mem_cons_self)
    obtain ⟨as2, b2, q2, a2, k2⟩ := DaAll.rk I sm t rs hs.2 fun z m => hz z (List.mem_cons_of_mem _ m)
    refine ⟨_, b1 ++ b2, .cons q1 q2, (a1.mono (Nat.le_max_left _ _)).append (a2.mono (Nat.le_max_right _ _)), ?_⟩
    exact .cons ((k1.more fun b q => List.mem_append_left _ q).level_le (Nat.le_max_left _ _)) (k2.more_le (fun b q => List.mem_append_right _ q) (Nat.le_max_right _ _))
end
end

/-! ### repr(x) -/
def rRepr (K : PySem.W.Frag) : List V → Hp → VK → Prop := fun xs H Q => ∃ (v : V) (d : PyData) (G : Hp), xs = [v] ∧ Same G H ∧ Da K G v d ∧ d.showable = true ∧ d.depth ≤ 60 ∧ d.shown.length ≤ sizeLine ∧ Q (.str d.shown) H
section
variable {X : Cx}
theorem call_repr (hgd : X.A.guards = some []) (hu : X.A.units + 64 < cLine) : CallR X (.builtin "repr") (rRepr X.K) := by
  intro pins s σ H xs us Q I r h
  obtain ⟨v, d, G, rfl, sm, hd, hs, hdp, hz, q⟩ := h
  obtain ⟨u, rfl, rv⟩ := vals1 r
  have done : ∀ h' t tk, (∀ b o, s.heap.get? b = some o → h'.get? b = some o) → EP X pins σ Q (.str d.shown t) { s with heap := h', toks := tk } := fun h' t tk k => ⟨.str _, H, I.kept k, ⟨_, rfl⟩, q⟩
  cases hd with
  | non => cases rv; exact P.repr_of_none ⟨.str _, H, I.tok _, ⟨_, rfl⟩, by simpa only [PyData.shown] using q⟩
  | bl b => cases rv; exact P.repr_of_bool ⟨.str _, H, I.tok _, ⟨_, rfl⟩, by simpa only [PyData.shown] using q⟩
  | int i => obtain ⟨t, rfl⟩ := rv; exact P.repr_of_int (by simpa [PyData.showable] using hs) ⟨.str _, H, I.tok _, ⟨_, rfl⟩, by simpa only [PyData.shown] using q⟩
  | str x => obtain ⟨t, rfl⟩ := rv; exact P.repr_of_str ⟨.str _, H, I.tok _, ⟨_, rfl⟩, by simpa only [PyData.shown] using q⟩ (by simpa only [PyData.shown] using hz)
  | @lst a xs ds h t =>
    cases rv
    have hz2 : (listText (PyData.shownAll ds)).length ≤ sizeLine := by simpa only [PyData.shown] using hz
    obtain ⟨_, its, n, rw', e⟩ := (show ObjOk X.prog X.w H s.heap a (.lst _) from I.hok a _ (sm _ _ h))
    obtain ⟨as, bs, q1, q2, q3⟩ := DaAll.rk I sm t rw' (by simpa [PyData.showable] using hs) fun z hz' => Nat.le_trans (listText_mem_le hz') hz2
    have rd : Reads s.heap (.ref a) (.list ds) _ := .list e rfl rfl q1
    have hna : a ∉ bs := not_mem_of_deeper rd (by simp only [PyData.depth]; omega) q2
    simp only [PyData.depth] at hdp
    refine call_repr_slot (T := "list") (idr := "list.__repr__") (by omega) ⟨_, e, rfl⟩ F.slot_list_repr.toG ?_
    cases its with
    | nil =>
      cases q1
      refine call_list_repr_empty ⟨_, e, rfl⟩ e rfl ⟨_, _, rfl, ?_⟩
      have := done s.heap s.toks (s.toks + 1) fun _ _ k => k
      simpa only [PyData.shown, PyData.shownAll, listText_nil] using this
    | cons y l =>
      exact call_list_reprK e rfl rfl hna (by simpa using q3.length_eq) (fun i z e2 => q3.item i z (by simpa using e2)) hgd (fun b _ => Clear.nil b) (by show X.A.units + 1 + _ < _; omega) (fun _ _ k => k)
        (fun h' t tk k => ⟨_, _, rfl, by have := done h' t tk k; simpa only [PyData.shown] using this⟩) hz2
  | @tup a xs ds h t =>
    cases rv
    have hz2 : (tupleText (PyData.shownAll ds)).length ≤ sizeLine := by simpa only [PyData.shown] using hz
    obtain ⟨its, rw', ⟨o, ho, hc, n, hdd⟩, _⟩ := I.tuple (sameT sm h)
    obtain ⟨as, bs, q1, q2, q3⟩ := DaAll.rk I sm t rw' (by simpa [PyData.showable] using hs) fun z hz' => Nat.le_trans (tupleText_mem_le hz') hz2
    have rd : Reads s.heap (.ref a) (.tuple ds) _ := .tuple ho hc hdd q1
    have hna : a ∉ bs := not_mem_of_deeper rd (by simp only [PyData.depth]; omega) q2
    simp only [PyData.depth] at hdp
    exact call_repr_slot (T := "tuple") (idr := "tuple.__repr__") (by omega) ⟨_, ho, hc⟩ F.slot_tuple_repr
      (call_tuple_reprK ho hc hdd hna q3 hgd (fun b _ => Clear.nil b) (by show X.A.units + 1 + _ < _; omega) (fun _ _ k => k) (fun h' t tk k => ⟨_, _, rfl, by have := done h' t tk k; simpa only [PyData.shown] using this⟩) hz2)
  | @dct a kvs ds h t =>
    cases rv
    have hz2 : (dictText (PyData.shownKv ((kvs.map fun p => keyD p.1).zip ds))).length ≤ sizeLine := by simpa only [PyData.shown] using hz
    obtain ⟨o, es, n, ho, hc, hdd, hsys, vk, vv⟩ := dict_at I (sm _ _ h)
    obtain ⟨as1, as2, bs, r1, r2, a3, k3⟩ := rk_entries (X := X) (s := s) vk (by rw [← t.length, List.length_map]) (fun s2 z2 => DaAll.rk I sm t vv s2 z2) (by simpa [PyData.showable] using hs) hz2
    have rd : Reads s.heap (.ref a) (.dict ((kvs.map fun p => keyD p.1).zip ds)) _ := .dict ho hc hdd r1 r2
    have hna : a ∉ bs := not_mem_of_deeper rd (by simp only [PyData.depth]; omega) a3
    simp only [PyData.depth] at hdp
    exact call_repr_slot (T := "dict") (idr := "dict.__repr__") (by omega) ⟨_, ho, hc⟩ F.slot_dict_repr
      (call_dict_reprK ho hc hdd hsys hna k3 hgd (fun b _ => Clear.nil b) (by show X.A.units + 1 + _ < _; omega) (fun _ _ k => k) (fun h' t tk k => ⟨_, _, rfl, by have := done h' t tk k; simpa only [PyData.shown] using this⟩) hz2)
end
end L2.Hx

/-! Own rules: «x in words» for any data x, enumerate of a tuple. -/
namespace L2.Hx
open PySem PySem.Spec PyProof.Rows
open AutoSeq1 (wpAny_loadPart')

section
theorem str_eq_dict (b : Str) (u : Tok) (l : Addr) (es : Array DictEntry) (n : Nat) (dd : Option Addr) (sl : Array (Option Value)) :
    Meets (Builtin.«str.__eq__» ⟨[.str b u, .ref l], []⟩) (fun _ R s => s.heap.get? l = some { cls := .type "dict", dict := dd, data := .dict es n, slots := sl } ∧ R (.ok (.ret .notImplemented)) s) :=
  .of_wp fun prog w A R s h => by
    obtain ⟨hp, g, d, tk, os⟩ := s
    obtain ⟨hl, h⟩ := h
    wp_walk using wpAny_load hl
    exact ⟨_, rfl, h⟩
theorem dict_eq_str (b : Str) (u : Tok) (l : Addr) (es : Array DictEntry) (n : Nat) (dd : Option Addr) (sl : Array (Option Value)) :
    Meets (Builtin.«dict.__eq__» ⟨[.ref l, .str b u], []⟩) (fun _ R s => s.heap.get? l = some { cls := .type "dict", dict := dd, data := .dict es n, slots := sl } ∧ R (.ok (.ret .notImplemented)) s) :=
  .of_wp fun prog w A R s h => by
    obtain ⟨hp, g, d, tk, os⟩ := s
    obtain ⟨hl, h⟩ := h
    have f1 := F.sub_str_dict
    wp_walk using wpAny_load hl
    exact ⟨_, rfl, h⟩
theorem str_is_dict {A : Around} {s : Shared} {l : Addr} {es : Array DictEntry} {n : Nat} {dd : Option Addr} {sl : Array (Option Value)} (b : Str) (u : Tok) (ho : s.heap.get? l = some { cls := .type "dict", dict := dd, data := .dict es n, slots := sl }) (hu : A.units < cLine) :
    SeqAt.EqAt A s (.str b u) (.ref l) false := fun prog w E Q h => by
  unfold eqBool
  refine wpAny_holding ?_
  refine wpAny_ite_split (fun hab => absurd (eq_of_beq hab) nofun) fun _ => ?_
  refine wpAny_bind ?_
  exact SeqAt.rc_eq_decline_or (k := false) (typeIs_str s b u) ⟨_, ho, rfl⟩ (by decide) F.sub_dict_str F.slot_str_eq F.slot_dict_eq_refl
    (fun Q2 hq => call_meets F.slot_str_eq (typeIs_str s b u) F.entry_str_eq (F.args_str_eq_2 _ _) (str_eq_dict b u l es n dd sl) ⟨ho, hq⟩)
    (fun Q2 hq => call_meets F.slot_dict_eq_refl ⟨_, ho, rfl⟩ F.entry_dict_eq (F.args_dict_eq_2 _ _) (dict_eq_str b u l es n dd sl) ⟨ho, hq⟩)
    (fun Q2 hq => wpAny_of_eq (rfl : isSame (.str b u) (.ref l) = pure false) hq) (.inr hu) (wpAny_truthy_bool h)
end
/-- is the word a text among these -/
def inWs (d : PyData) (ws : List Str) : Bool := match d with
  | .str z => decide (z ∈ ws)
  | _ => false
def eqW (d : PyData) (u : Value) : Bool := match d, u with
  | .str z, .str y _ => y == z
  | _, _ => false
section
variable {X : Cx} {pins : List (Addr × Obj)} {σ : St} {H G : Hp} {s : Shared}
theorem any_eqW : ∀ {d : PyData} {ws : List Str} {us : List Value}, Vals (ws.map V.str) us → us.any (eqW d) = inWs d ws
  | d, [], _, .nil => by
    cases d <;> simp [inWs]
  | d, w :: ws, _, .cons r t => by
    obtain ⟨tk, rfl⟩ := r
    rw [List.any_cons, any_eqW (d := d) t]
    cases d <;> simp [eqW, inWs]
    rename_i z
    by_cases h : w = z
    · subst h
      simp
    · simp [h, Ne.symm h]
theorem eq_word (hu : X.A.units + 64 < cLine) (I : Inv X pins σ H s) (sm : Same G H) {v : V} {d : PyData} {x : Value} (hd : Da X.K G v d) (rx : RelV v x) (y : Str) (t : Tok) : SeqAt.EqAt X.A.in1 s (.str y t) x (eqW d (.str y t)) := by
  have hu1 : X.A.in1.units < cLine := by show X.A.units + 1 < _; omega
  cases hd with
  | non => cases rx; exact SeqAt.EqAt.str_none y t
  | bl b => cases rx; exact SeqAt.EqAt.str_bool y t b
  | int i => obtain ⟨tk, rfl⟩ := rx; exact SeqAt.EqAt.str_int y t i tk
  | str z => obtain ⟨tk, rfl⟩ := rx; exact SeqAt.EqAt.str_str y t z tk
  | @lst a xs ds h _ =>
    cases rx
    obtain ⟨_, its, n, _, e⟩ := (show ObjOk X.prog X.w H s.heap a (.lst _) from I.hok a _ (sm _ _ h))
    exact SeqAt.EqAt.str_list y t ⟨_, e, rfl, _, rfl⟩ hu1
  | @tup a xs ds h _ =>
    cases rx
    obtain ⟨its, _, p, _⟩ := I.tuple (sameT sm h)
    exact SeqAt.EqAt.str_tuple y t p hu1
  | @dct a kvs ds h _ =>
    cases rx
    obtain ⟨o, es, n, ho, hc, hdd, _⟩ := dict_at I (sm _ _ h)
    obtain ⟨c, dd, data, sl⟩ := o
    simp only at hc hdd
    subst hc hdd
    exact str_is_dict y t ho hu1
/-- x in ws, x any data, ws a list or tuple of texts -/
def rInW (K : PySem.W.Frag) (neg : Bool) : R2 := fun x y H Q => ∃ (p : Addr) (ws : List Str) (d : PyData) (G : Hp), y = .ref p ∧ (SqL K H p (ws.map V.str) ∨ SqT K H p (ws.map V.str)) ∧ Same G H ∧ Da K G x d ∧ Q (.bl (if neg then !inWs d ws else inWs d ws)) H
theorem in_words (hu : X.A.units + 64 < cLine) (I : Inv X pins σ H s) (sm : Same G H) {v : V} {d : PyData} {x : Value} (hd : Da X.K G v d) (rx : RelV v x) : ∀ {ws : List Str} {us : List Value}, Vals (ws.map V.str) us → ∀ u ∈ us, SeqAt.EqAt X.A.in1 s u x (eqW d u)
  | [], _, .nil => fun u hu => by cases hu
  | y :: ws, u :: us, .cons r t => fun u' hu' => by
    rcases List.mem_cons.mp hu' with rfl | hu'
    · obtain ⟨tk, rfl⟩ := r
      exact eq_word hu I sm hd rx y tk
    · exact in_words hu I sm hd rx t u' hu'
theorem op_inW (hu : X.A.units + 64 < cLine) : OpR X (compareOp .In) (rInW X.K false) := by
  intro pins s σ H x y v u Q I rx ry h
  obtain ⟨p, ws, d, G, rfl, hq, sm, hd, q⟩ := h
  cases ry
  have q : Q (.bl (inWs d ws)) H := q
  rcases hq with hq | hq
  · obtain ⟨its, r, pl, _⟩ := I.list hq
    refine SeqAt.in_listAt (eqW d) pl.isList (fun z hz => in_words hu I sm hd rx r z (by simpa using hz)) ⟨.bl _, H, I, rfl, ?_⟩
    rw [show its.toArray.any (eqW d) = its.any (eqW d) by simp, any_eqW r]
    exact q
  · obtain ⟨its, r, pl, _⟩ := I.tuple hq
    refine SeqAt.in_tupleAt (eqW d) pl (fun z hz => in_words hu I sm hd rx r z (by simpa using hz)) ⟨.bl _, H, I, rfl, ?_⟩
    rw [show its.toArray.any (eqW d) = its.any (eqW d) by simp, any_eqW r]
    exact q
theorem op_notInW (hu : X.A.units + 64 < cLine) : OpR X (compareOp .NotIn) (rInW X.K true) := by
  intro pins s σ H x y v u Q I rx ry h
  obtain ⟨p, ws, d, G, rfl, hq, sm, hd, q⟩ := h
  cases ry
  have q : Q (.bl (!inWs d ws)) H := q
  rcases hq with hq | hq
  · obtain ⟨its, r, pl, _⟩ := I.list hq
    refine SeqAt.notIn_listAt (eqW d) pl.isList (fun z hz => in_words hu I sm hd rx r z (by simpa using hz)) ⟨.bl _, H, I, rfl, ?_⟩
    rw [show its.toArray.any (eqW d) = its.any (eqW d) by simp, any_eqW r]
    exact q
  · obtain ⟨its, r, pl, _⟩ := I.tuple hq
    refine SeqAt.notIn_tupleAt (eqW d) pl (fun z hz => in_words hu I sm hd rx r z (by simpa using hz)) ⟨.bl _, H, I, rfl, ?_⟩
    rw [show its.toArray.any (eqW d) = its.any (eqW d) by simp, any_eqW r]
    exact q
end

/-! ### isinstance of data -/
def tyD : PyData → String
  | .none => "NoneType"
  | .bool _ => "bool"
  | .int _ => "int"
  | .str _ => "str"
  | .list _ => "list"
  | .tuple _ => "tuple"
  | .dict _ => "dict"
def isTup : PyData → Bool
  | .tuple _ => true
  | _ => false
def isStr : PyData → Bool
  | .str _ => true
  | _ => false
def rIsiD (K : PySem.W.Frag) : List V → Hp → VK → Prop := fun xs H Q => ∃ (x : V) (d : PyData) (G : Hp), Same G H ∧ Da K G x d ∧ ((xs = [x, .ty "tuple"] ∧ Q (.bl (isTup d)) H) ∨ (xs = [x, .ty "str"] ∧ Q (.bl (isStr d)) H))
section
variable {X : Cx} {pins : List (Addr × Obj)} {σ : St} {H G : Hp} {s : Shared}
theorem kit_da (I : Inv X pins σ H s) (sm : Same G H) {v : V} {d : PyData} {u : Value} (hd : Da X.K G v d) (rv : RelV v u) : ∃ P : Heap → Prop, PySem.W.KitX X.K u (.type (tyD d)) P ∧ P s.heap ∧ u ≠ .builtin "__main__.__loader__#opaque" := by
  cases hd with
  | non => cases rv; exact ⟨_, PySem.W.kitx_none, True.intro, fun z => nomatch z⟩
  | bl b => cases rv; exact ⟨_, PySem.W.kitx_bool, True.intro, fun z => nomatch z⟩
  | int i => obtain ⟨t, rfl⟩ := rv; exact ⟨_, PySem.W.kitx_int, True.intro, fun z => nomatch z⟩
  | str x => obtain ⟨t, rfl⟩ := rv; exact ⟨_, PySem.W.kitx_str, True.intro, fun z => nomatch z⟩
  | @lst a xs ds h _ =>
    cases rv
    obtain ⟨_, its, n, _, e⟩ := (show ObjOk X.prog X.w H s.heap a (.lst _) from I.hok a _ (sm _ _ h))
    exact ⟨_, PySem.W.kitx_list, ⟨_, e, rfl⟩, fun z => nomatch z⟩
  | @tup a xs ds h _ =>
    cases rv
    obtain ⟨its, _, ⟨o, ho, hc, _⟩, _⟩ := I.tuple (sameT sm h)
    exact ⟨_, PySem.W.kitx_tuple, ⟨o, ho, hc⟩, fun z => nomatch z⟩
  | @dct a kvs ds h _ =>
    cases rv
    obtain ⟨o, es, n, ho, hc, _⟩ := dict_at I (sm _ _ h)
    exact ⟨_, PySem.W.kitx_dict, ⟨o, ho, hc⟩, fun z => nomatch z⟩
theorem kitB_tup : ∀ d : PyData, kitB (tyD d) "tuple" = some (isTup d)
  | .none => by
    show kitB "NoneType" "tuple" = some false
    decide +kernel
  | .bool _ => by
    show kitB "bool" "tuple" = some false
    decide +kernel
  | .int _ => by
    show kitB "int" "tuple" = some false
    decide +kernel
  | .str _ => by
    show kitB "str" "tuple" = some false
    decide +kernel
  | .list _ => by
    show kitB "list" "tuple" = some false
    decide +kernel
  | .tuple _ => by
    show kitB "tuple" "tuple" = some true
    decide +kernel
  | .dict _ => by
    show kitB "dict" "tuple" = some false
    decide +kernel
theorem kitB_str : ∀ d : PyData, kitB (tyD d) "str" = some (isStr d)
  | .none => by
    show kitB "NoneType" "str" = some false
    decide +kernel
  | .bool _ => by
    show kitB "bool" "str" = some false
    decide +kernel
  | .int _ => by
    show kitB "int" "str" = some false
    decide +kernel
  | .str _ => by
    show kitB "str" "str" = some true
    decide +kernel
  | .list _ => by
    show kitB "list" "str" = some false
    decide +kernel
  | .tuple _ => by
    show kitB "tuple" "str" = some false
    decide +kernel
  | .dict _ => by
    show kitB "dict" "str" = some false
    decide +kernel
theorem call_isiD : CallR X (.builtin "isinstance") (rIsiD X.K) := by
  intro pins s σ H xs us Q I r h
  obtain ⟨x, d, G, sm, hd, h⟩ := h
  rcases h with ⟨rfl, q⟩ | ⟨rfl, q⟩
  · obtain ⟨u1, u2, rfl, r1, r2⟩ := vals2 r
    cases r2
    obtain ⟨P, Z, p, hx⟩ := kit_da I sm hd r1
    exact PySem.W.kia_one Z I.kIn p (kit_ty (kitB_tup d)) hx fun tk => ⟨.bl _, H, I.tok tk, rfl, q⟩
  · obtain ⟨u1, u2, rfl, r1, r2⟩ := vals2 r
    cases r2
    obtain ⟨P, Z, p, hx⟩ := kit_da I sm hd r1
    exact PySem.W.kia_one Z I.kIn p (kit_ty (kitB_str d)) hx fun tk => ⟨.bl _, H, I.tok tk, rfl, q⟩
end

/-! ### enumerate(t), t a tuple -/
section
theorem new_enum {v : Value} {o : Obj} {HB : Heap → Prop} (B : Begins v o HB) :
    Meets (Builtin.«enumerate.__new__» ⟨[.type "enumerate", v], []⟩) (fun _ R s => HB s.heap ∧
      R (.ok (.ret (.ref (s.heap.push o).objs.size))) { s with heap := (s.heap.push o).push { cls := .type "enumerate", data := .fields #[.none, .bool false, .ref s.heap.objs.size, rawInt 0, .none, .none] } }) :=
  .of_wp fun prog w A R s h => by
    obtain ⟨hp, g, d, tk, os⟩ := s
    obtain ⟨h1, h⟩ := h
    have hsub := sub_enumerate
    have q1 : ∀ {A' : Around} {E : Value → Shared → Prop} {Q : Value → Shared → Prop}, Q (.ref hp.objs.size) ⟨hp.push o, g, d, tk, os⟩ → wpAny (model prog w) A' (pyIter v) Q E ⟨hp, g, d, tk, os⟩ :=
      fun q => B.iter prog w _ _ ⟨hp, g, d, tk, os⟩ _ h1 q
    wp_walk using q1
    refine wpAny_stack_any fun st => wpAny_pure ?_
    split
    · rename_i c _ _ _ _ _
      cases (c == Value.type "enumerate")
      · wp_walk using q1
        exact ⟨_, rfl, h⟩
      · wp_walk using q1
        exact ⟨_, rfl, h⟩
    · wp_walk using q1
      exact ⟨_, rfl, h⟩
theorem enum_of {prog : Program} {w : World} {A : Around} {E : Value → Shared → Prop} {s : Shared} {v : Value} {o : Obj} {HB : Heap → Prop} {Q : Value → Shared → Prop} (B : Begins v o HB) (h1 : HB s.heap)
    (h : ∀ h', IsEnum h' (s.heap.objs.size + 1) s.heap.objs.size 0 .none → h'.get? s.heap.objs.size = some o → h'.objs.size = s.heap.objs.size + 2 →
      (∀ b u, s.heap.get? b = some u → h'.get? b = some u) → Q (.ref (s.heap.objs.size + 1)) { s with heap := h' }) :
    wpAny (model prog w) A (call (.type "enumerate") [v]) Q E s := by
  refine callType_new F.called_enumerate (by decide) (F.typeCall_enumerate_1 _) (F.newCall_enumerate_1 _) (fun obj => F.args_object_init_2 obj _) F.entry_enumerate_new (new_enum B) ⟨h1, ?_⟩
  have hz : (s.heap.push o).objs.size = s.heap.objs.size + 1 := Heap.size_push ..
  show _ ∧ _
  rw [hz]
  have he := Heap.get?_push_size (s.heap.push o) (o := { cls := .type "enumerate", data := .fields #[.none, .bool false, .ref s.heap.objs.size, rawInt 0, .none, .none] }) rfl
  rw [hz] at he
  refine ⟨⟨_, he, rfl⟩, h _ he (Heap.get?_push_of_some _ (Heap.get?_push_size _ B.free)) (by rw [Heap.size_push, hz]) fun b u q => Heap.get?_push_of_some _ (Heap.get?_push_of_some _ q)⟩
/-- the tuple's items with their places, in new pairs -/
def Iet (K : PySem.W.Frag) (a : Addr) : It :=
  ⟨fun i H => ∃ (xs : List V) (x : V), SqT K H a xs ∧ xs[i]? = some x,
    fun i H v H' => ∃ T x, v = .ref T ∧ H T = none ∧ H' = upd H T (.tup [.int (i : Nat), x]) ∧ ∀ xs, SqT K H a xs → xs[i]? = some x,
    fun i H => ∃ xs : List V, SqT K H a xs ∧ xs.length ≤ i⟩
theorem turn_enumT {P : Program} {w : World} {K : PySem.W.Frag} {elts : List Expr} {kk : Nat} {tpos : Pos} (a e it : Addr) :
    Turn P w K (.Tuple elts kk tpos) (Iet K a) [e, it] e (fun i h => (∃ old, IsEnum h e it ((i : Nat) : Int) old) ∧ h.IsTupleIter it a i ∧ e ≠ it ∧ a ≠ it ∧ a ≠ e) where
  mem := by simp
  obj := fun i h st b hb => by
    obtain ⟨⟨old, he⟩, ⟨o, ho, hc, hd⟩, _⟩ := st
    have e' : b = e ∨ b = it := by simpa using hb
    rcases e' with z | z
    · rw [z]; exact ⟨_, he, fun v q => nomatch q⟩
    · rw [z]; exact ⟨o, ho, fun v q => by rw [hd] at q; cases q⟩
  keep := fun i h h' st k => let ⟨⟨old, he⟩, hi, hne⟩ := st; ⟨⟨old, k e (by simp) _ he⟩, hi.at fun o q => k it (by simp) o q, hne⟩
  item := by
    intro X hP hw hK hc i pins s σ H E I hf st hg
    subst hP hw hK
    obtain ⟨⟨old, he⟩, hit, hne, hai, hae⟩ := st
    obtain ⟨xs, x, hq, hx⟩ := hg
    obtain ⟨its, rv, p, hz⟩ := I.tuple hq
    obtain ⟨u, hu, ru⟩ := rv.get hx
    have hel : e < s.heap.objs.size := Heap.lt_size he
    have hil : it < s.heap.objs.size := by obtain ⟨_, q, _⟩ := hit; exact Heap.lt_size q
    have hlt : i < its.toArray.size := by
      have q := (List.getElem?_eq_some_iff.mp hu).1
      simpa using q
    refine wpAny_pyNext_enum_itemD (Draws.tuple (A := X.A.in1) (I.ok.hd hc) it a hai its.toArray) he ⟨hit, p⟩ hlt hne (fun z => by
      have z : e = it ∨ e = a := by simpa using z
      rcases z with z | z
      · exact hne z
      · exact hae z.symm) fun y h' tk hP ho hst hT hsz hk => ?_
    have ey : y = u := by
      have z : its.toArray[i]? = some y := hP
      rw [List.getElem?_toArray, hu] at z
      cases z
      rfl
    subst ey
    refine ⟨_, rfl, wpAny_letOwnedTupleGo_enum (s := { s with heap := h', toks := tk + 1 }) ho fun h'' he' sb => ?_⟩
    have hT2 : h''.get? s.heap.objs.size = some { cls := .type "tuple", data := .seq #[.int i tk, y] } := (sb.2 _ (Nat.ne_of_gt hel)).trans hT
    have new : ObjOk X.prog X.w (upd H s.heap.objs.size (.tup [.int (i : Nat), x])) h'' s.heap.objs.size (.tup [.int (i : Nat), x]) :=
      ⟨by show 2 ≤ sizeLine; decide, [.int i tk, y], .cons ⟨_, rfl⟩ (.cons ru .nil), ⟨_, hT2, rfl, _, rfl⟩⟩
    have I1 : Inv X pins σ (upd H s.heap.objs.size (.tup [.int (i : Nat), x])) { s with heap := h'', toks := tk + 1 } :=
      I.turnedNew (ch := [e, it]) (fun b ob hb q => (sb.2 b (fun z => hb (by simp [z]))).trans (hk b ob (fun z => hb (by simp [z])) (fun z => hb (by simp [z])) q)) hf (Nat.le_refl _) new
    refine ⟨.ref s.heap.objs.size, _, I1, rfl, ⟨_, x, rfl, I.hok.fresh (Nat.le_refl _), rfl, fun ys hy => by rw [I.tuple_inj hy hq]; exact hx⟩, ⟨⟨y, ?_⟩, hst.1.at fun o q => (sb.2 it (Ne.symm hne)).trans q, hne, hai, hae⟩, fun b hb => ?_⟩
    · have e1 : ((i + 1 : Nat) : Int) = (i : Int) + 1 := by omega
      rw [e1]; exact he'
    · have hb' : b < s.heap.objs.size := by
        have e' : b = e ∨ b = it := by simpa using hb
        rcases e' with z | z
        · rw [z]; exact hel
        · rw [z]; exact hil
      rw [upd_ne (Nat.ne_of_lt hb')]
      exact (hf b hb).1
  done := by
    intro X hP hw hK hc i pins s σ H E I hf st hg
    subst hP hw hK
    obtain ⟨⟨old, he⟩, hit, hne, hai, hae⟩ := st
    obtain ⟨xs, hq, hx⟩ := hg
    obtain ⟨its, rv, p, hz⟩ := I.tuple hq
    obtain ⟨f0, f1, f2, f3, f4, f5⟩ := hf it (by simp)
    have hl := rv.length
    have hh : X.A.in1.handled = none := I.ok.hd hc
    have D := Draws.tuple (prog := X.prog) (w := X.w) (A := X.A.in1) hh it a hai its.toArray
    have hT : s.TypeIs (.ref e) "enumerate" := ⟨_, he, rfl⟩
    have hx' : its.toArray[i]? = none := by simp; omega
    unfold pyNext
    refine wpAny_bind (wpAny_attempt (wpAny_callSpecial?_slot (name := Str.ofString "__next__") hT F.slot_enumerate_next
      (wpAny_call_entry F.slot_enumerate_next hT F.entry_enumerate_next ?_ (F.args_enumerate_next_1 _))))
    show wpAny _ _ (field (.ref e) 2 >>= _) _ _ _
    refine wpAny_bind (wpAny_field he rfl (x := .ref it) rfl ?_)
    refine wpAny_bind (wpAny_nextOf_tuple_end hh hit p hx' fun h' x eb ht => ?_)
    obtain ⟨o, ho, hcl⟩ := ht
    refine wpAny_bind (wpAny_isInstance (T := "StopIteration") (b := true) ⟨o, ho, hcl⟩ isSubtype_stop ?_)
    exact wpAny_pure ⟨rfl, I.turned (t' := s.toks) (fun b o hb q => eb b o hb q) f0 f1 f3 f4 f5⟩
  self := fun A i s Q E st h => let ⟨⟨_, he⟩, _⟩ := st; wpAny_pyIter_enum he h
def iEnumT (K : PySem.W.Frag) (ta : TA) : TI := fun σ H R => ta σ H fun vs H1 => ∃ a xs, vs = [.ref a] ∧ SqT K H1 a xs ∧ R (Iet K a) H1
theorem pi_enumT {X : Cx} {e : Expr} {ta : TA} {p pos tpos : Pos} {elts : List Expr} {kk : Nat} (hg : Gl X "enumerate") (hm : X.mg "enumerate" = none) (ha : PA X [e] ta) (hs : starEach [e] X.env = [(false, eval e X.env)] := by rfl) :
    PI X (.Tuple elts kk tpos) (.Call (.Name "enumerate" p) [e] [] pos) (iEnumT X.K ta) := by
  refine ⟨fun pins s σ H R I h => ?_⟩
  refine Call_ (ld_blt I hg hm boot_enumerate (PyProof.Rows.callWith_type1 (thn (ha.run pos pins s σ H _ I h) fun us s1 ⟨vs, H1, I1, r1, q1⟩ => ?_) hs rfl))
  obtain ⟨a, xs, rfl, hq, q⟩ := q1
  obtain ⟨u, rfl, r⟩ := vals1 r1
  cases r
  obtain ⟨its, rv, p', hz⟩ := I1.tuple hq
  have hlt : a < s1.heap.objs.size := p'.lt
  refine enum_of (begins_tuple a its.toArray) p' fun h' he hit hsz hk => wpAny_pyIter_enum he ?_
  have I2 : Inv X pins σ H1 { s1 with heap := h' } := I1.kept (t' := s1.toks) hk
  refine ⟨s1.heap.objs.size + 1, [s1.heap.objs.size + 1, s1.heap.objs.size], _, _, H1, rfl, I2, turn_enumT a (s1.heap.objs.size + 1) s1.heap.objs.size, ⟨⟨.none, he⟩, ⟨_, hit, rfl, rfl⟩, Nat.succ_ne_self _, Nat.ne_of_lt hlt, Nat.ne_of_lt (Nat.lt_succ_of_lt hlt)⟩, fun b hb => ?_, q⟩
  have e' : b = s1.heap.objs.size + 1 ∨ b = s1.heap.objs.size := by simpa using hb
  have hle : s1.heap.objs.size ≤ b := by
    rcases e' with z | z
    · rw [z]; exact Nat.le_add_right _ _
    · rw [z]; exact Nat.le_refl _
  exact I1.fpOk hle (I1.hok.fresh hle)
/-- for i, x in enumerate(t): the tuple stands, the pair is new -/
theorem for_enumT {K : PySem.W.Frag} {a : Addr} {xs : List V} {g : TG} {tb : TS} {D : Ends} {σ : St} {H : Hp} (Pv : Nat → St → Hp → Prop) (h0 : Pv 0 σ H) (hl : ∀ i σ H, i ≤ xs.length → Pv i σ H → SqT K H a xs)
    (hs : ∀ (i : Nat) (x : V) (T : Addr) (σ : St) (H : Hp), xs[i]? = some x → Pv i σ H → H T = none → g (.ref T) σ (upd H T (.tup [.int (i : Nat), x])) fun σ2 H2 => tb { D with nx := Pv (i + 1), ct := Pv (i + 1), bk := D.nx } σ2 H2)
    (hd : ∀ σ H, Pv xs.length σ H → D.nx σ H) : ∃ W : Nat → Nat → St → Hp → Prop, (∃ m, W 0 m σ H) ∧ ∀ i m σ H, W i m σ H →
      ((Iet K a).stop i H ∧ D.nx σ H) ∨ ((Iet K a).go i H ∧ ∃ N : St → Hp → Prop, (∀ σ2 H2, N σ2 H2 → ∃ m2, m2 < m ∧ W (i + 1) m2 σ2 H2) ∧ ∀ x H2, (Iet K a).yld i H x H2 → g x σ H2 fun σ3 H3 => tb { D with nx := N, ct := N, bk := D.nx } σ3 H3) := by
  refine ⟨fun i m σ H => m = xs.length - i ∧ i ≤ xs.length ∧ Pv i σ H, ⟨xs.length, by simp, Nat.zero_le _, h0⟩, ?_⟩
  rintro i m σ H ⟨rfl, hi, p⟩
  have q := hl i σ H hi p
  rcases Nat.lt_or_ge i xs.length with hlt | hge
  · refine .inr ⟨⟨xs, xs[i], q, by simp [hlt]⟩, Pv (i + 1), fun σ2 H2 p2 => ⟨xs.length - (i + 1), by omega, rfl, hlt, p2⟩, fun x H2 y => ?_⟩
    obtain ⟨T, z, rfl, hT, rfl, y⟩ := y
    exact hs i z T σ H (y xs q) p hT
  · have e : i = xs.length := by omega
    subst e
    exact .inl ⟨⟨xs, q, Nat.le_refl _⟩, hd σ H p⟩
end
end L2.Hx

/-! Defs of the text as promises; the law's deck beside a part G of the heap that never changes. -/
namespace L2.Hx
open PySem PySem.Spec PyProof.Rows

/-- a def of the text, where it stands -/
structure Src (K : PySem.W.Frag) (mg : Str → Option Value) (x : Str) (st : Stmt) (ps : List Str) (f : Addr) (fd : FuncData) : Prop where
  fn : Fun K x x st f fd
  at_ : mg x = some (.ref f)
  bd : Binds K fd ps []
/-- a def with its promise -/
structure Df (P : Program) (w : World) (K : PySem.W.Frag) (mg : Str → Option Value) (base : Heap) (k : Nat) (x : Str) (ps : List Str) (sp : Sp) : Prop where
  ex : ∃ (f : Addr) (fd : FuncData), FnG P w K mg base CX0 k f fd ps sp ∧ mg x = some (.ref f) ∧ PySem.W.keepIn K (.ref f) = true ∧ Binds K fd ps []
section
variable {P : Program} {w : World} {K : PySem.W.Frag} {mg : Str → Option Value} {base : Heap} {k : Nat} {x : Str} {ps : List Str} {sp : Sp}
theorem Df.mk' {st : Stmt} {N : List Str} {f : Addr} {fd : FuncData} (S : Src K mg x st ps f fd) (sc : FnScope N ps (defScope st)) (hn : ∀ vs H Q E, sp vs H Q E → vs.length = ps.length)
    (hbody : ∀ (cdv : Value) (A : Around) (outer : List Env) (s : Shared) (H : Hp) (vs : List V) (Q : VK) (E : XK), (A.deeper (envOfC x (defScope st) s.heap.objs.size f cdv)).guards = some [] → Room k (A.deeper (envOfC x (defScope st) s.heap.objs.size f cdv)) → sp vs H Q E →
      ∃ t, PSs (cxOf CX0 P w K mg base N x (defScope st) f cdv A outer s H E).nox (defBody st) t ∧ t { nx := fun _ H' => Q .non H', rt := Q } (start N vs) H) : Df P w K mg base (k + 1) x ps sp :=
  ⟨f, fd, okG S.fn sc hn hbody, S.at_, S.fn.kp, S.bd⟩
/-- a def with its promise and its text -/
def DfS (P : Program) (w : World) (K : PySem.W.Frag) (mg : Str → Option Value) (base : Heap) (k : Nat) (x : Str) (st : Stmt) (ps : List Str) (sp : Sp) : Prop := ∃ (f : Addr) (fd : FuncData), FnG P w K mg base CX0 k f fd ps sp ∧ Src K mg x st ps f fd
theorem DfS.mk' {st : Stmt} {N : List Str} {f : Addr} {fd : FuncData} (S : Src K mg x st ps f fd) (sc : FnScope N ps (defScope st)) (hn : ∀ vs H Q E, sp vs H Q E → vs.length = ps.length)
    (hbody : ∀ (cdv : Value) (A : Around) (outer : List Env) (s : Shared) (H : Hp) (vs : List V) (Q : VK) (E : XK), (A.deeper (envOfC x (defScope st) s.heap.objs.size f cdv)).guards = some [] → Room k (A.deeper (envOfC x (defScope st) s.heap.objs.size f cdv)) → sp vs H Q E →
      ∃ t, PSs (cxOf CX0 P w K mg base N x (defScope st) f cdv A outer s H E).nox (defBody st) t ∧ t { nx := fun _ H' => Q .non H', rt := Q } (start N vs) H) : DfS P w K mg base (k + 1) x st ps sp := ⟨f, fd, okG S.fn sc hn hbody, S⟩
theorem DfS.df {st : Stmt} (D : DfS P w K mg base k x st ps sp) : Df P w K mg base k x ps sp := let ⟨f, fd, a, S⟩ := D; ⟨f, fd, a, S.at_, S.fn.kp, S.bd⟩
/-- .. by keywords -/
theorem DfS.kw {st : Stmt} {ks : List Str} {g : {α : Type} → List α → List α} (D : DfS P w K mg base k x st ps sp) (h : ∀ (kV doc pm : Value) (an : Option Addr) (cdv ct : Value) (ws : List Value), ws.length = ps.length → bindArgs (PySem.W.fnOf x x (defArgs st) (defBody st) (defScope st) .none kV doc pm an cdv ct) ⟨[], ks.zip ws⟩ = pure (ps.zip (g ws))) :
    ∃ f fd, FnG P w K mg base CX0 k f fd ps sp ∧ mg x = some (.ref f) ∧ PySem.W.keepIn K (.ref f) = true ∧ KwBinds K fd ps ks g := by
  obtain ⟨f, fd, a, S⟩ := D
  refine ⟨f, fd, a, S.at_, S.fn.kp, ?_⟩
  obtain ⟨oc, od, kV, doc, pm, an, cdv, ct, osl, rfl, lk, hcd⟩ := S.fn.ex
  exact fun s ws _ hl => .of_eq (h kV doc pm an cdv ct ws hl)
theorem Df.mono {j : Nat} (F : Df P w K mg base j x ps sp) (h : j ≤ k) : Df P w K mg base k x ps sp := let ⟨f, fd, a, b, c, d⟩ := F.ex; ⟨f, fd, a.mono h, b, c, d⟩
theorem Df.imp {sp' : Sp} (F : Df P w K mg base k x ps sp) (h : ∀ vs H Q E, sp' vs H Q E → sp vs H Q E) : Df P w K mg base k x ps sp' := let ⟨f, fd, a, b, c, d⟩ := F.ex; ⟨f, fd, a.imp h, b, c, d⟩
end
section
variable {X : Cx} {k j : Nat} {x : Str} {ps : List Str} {sp : Sp} {p pos : Pos} {e : Expr} {es : List Expr} {t : TA}
theorem pe_d (F : Df X.prog X.w X.K X.mg X.base k x ps sp) (hgd : X.A.guards = some []) (hr : Room j X.A) (ha : PA X (e :: es) t) (hj : k ≤ j := by first | exact Nat.le_refl _ | decide) (hg : Gl X x := by rfl)
    (hdb : (x == ("__debug__" : Str)) = false := by decide) (he : starEach (e :: es) X.env = (false, eval e X.env) :: starEach es X.env := by rfl) (hpl : (backTo pos (starEach es X.env)).any (·.1) = false := by rfl) :
    PE X (.Call (.Name x p) (e :: es) [] pos) (tCall sp [] E0 t) := by
  obtain ⟨f, fd, a, b, c, d⟩ := F.ex
  exact pe_g a hgd (hr.mono hj) hg b c d .nil pass0 ha hdb he hpl
theorem pe_d0 (F : Df X.prog X.w X.K X.mg X.base k x ps sp) (hgd : X.A.guards = some []) (hr : Room j X.A) (hj : k ≤ j := by first | exact Nat.le_refl _ | decide) (hg : Gl X x := by rfl) (hdb : (x == ("__debug__" : Str)) = false := by decide) :
    PE X (.Call (.Name x p) [] [] pos) (tCall sp [] E0 tNil) := by
  obtain ⟨f, fd, a, b, c, d⟩ := F.ex
  exact pe_g0 a hgd (hr.mono hj) hg b c d .nil pass0 hdb
end

/-! ### the deck -/
abbrev kGreat : Key := .inr "great"
abbrev kMixed : Key := .inr "mixed"
abbrev kTurns : Key := .inr "turns"
def deckD (l : Addr) (m t : Int) : List (Key × V) := [(kGreat, .ref l), (kMixed, .int m), (kTurns, .int t)]
theorem gm_ : ¬ kGreat = kMixed := of_decide_eq_false (by decide +kernel)
theorem gt_ : ¬ kGreat = kTurns := of_decide_eq_false (by decide +kernel)
theorem mt_ : ¬ kMixed = kTurns := of_decide_eq_false (by decide +kernel)
theorem deck_great (l : Addr) (m t : Int) : valV (deckD l m t) kGreat = some (.ref l) := by
  simp [valV, deckD, List.find?_cons]
theorem deck_mixed (l : Addr) (m t : Int) : valV (deckD l m t) kMixed = some (.int m) := by
  have h1 : decide (("great" : Str) = "mixed") = false := by decide +kernel
  simp [valV, deckD, List.find?_cons, h1]
theorem deck_turns (l : Addr) (m t : Int) : valV (deckD l m t) kTurns = some (.int t) := by
  have h1 : decide (("great" : Str) = "turns") = false := by decide +kernel
  have h2 : decide (("mixed" : Str) = "turns") = false := by decide +kernel
  simp [valV, deckD, List.find?_cons, h1, h2]
theorem deck_put_turns (l : Addr) (m t u : Int) : putK (deckD l m t) kTurns (.int u) = deckD l m u := by
  unfold putK deckD
  have h1 : decide (kGreat = kTurns) = false := by decide +kernel
  have h2 : decide (kMixed = kTurns) = false := by decide +kernel
  have h3 : decide (kTurns = kTurns) = true := by decide +kernel
  have n1 : ¬ kGreat = kTurns := of_decide_eq_false h1
  have n2 : ¬ kMixed = kTurns := of_decide_eq_false h2
  simp [List.any_cons, List.map_cons, n1, n2]
theorem deck_put_mixed (l : Addr) (m t u : Int) : putK (deckD l m t) kMixed (.int u) = deckD l u t := by
  unfold putK deckD
  have h1 : decide (kGreat = kMixed) = false := by decide +kernel
  have h2 : decide (kTurns = kMixed) = false := by decide +kernel
  have n1 : ¬ kGreat = kMixed := of_decide_eq_false h1
  have n2 : ¬ kTurns = kMixed := of_decide_eq_false h2
  simp [List.any_cons, List.map_cons, n1, n2]

/-- the deck stands at p with its list at l; G, which tracks neither, is a part of H -/
structure Wd (p l : Addr) (G H : Hp) : Prop where
  same : Same G H
  gp : G p = none
  gl : G l = none
  dk : ∃ m t : Int, 0 ≤ m ∧ m < 4294967291 ∧ H p = some (.dK (deckD l m t))
  ls : ∃ ns : List Int, ns.length ≤ 63 ∧ H l = some (.lst (ns.map V.int))
theorem Wd.ne {p l : Addr} {G H : Hp} (W : Wd p l G H) : p ≠ l := by
  obtain ⟨_, _, _, _, h1⟩ := W.dk
  obtain ⟨_, _, h2⟩ := W.ls
  exact ne_of h1 h2 (by intro q; cases q)
theorem Wd.np {p l : Addr} {G H : Hp} (W : Wd p l G H) {a : Addr} (h : H a = none) : a ≠ p := by
  obtain ⟨_, _, _, _, h1⟩ := W.dk
  intro e
  rw [e, h1] at h
  cases h
theorem Wd.nl {p l : Addr} {G H : Hp} (W : Wd p l G H) {a : Addr} (h : H a = none) : a ≠ l := by
  obtain ⟨_, _, h1⟩ := W.ls
  intro e
  rw [e, h1] at h
  cases h
/-- from one state to a later one: the deck may have been drawn from, G may have grown by new objects -/
structure Ext (p l : Addr) (G H G' H' : Hp) : Prop where
  w : Wd p l G' H'
  sub : Same G G'
  keep : ∀ b o, b ≠ p → b ≠ l → H b = some o → H' b = some o
  new : ∀ b o, H b = some o → G b = none → G' b = none
section
variable {p l : Addr} {G H G1 H1 G2 H2 : Hp}
theorem Ext.refl (W : Wd p l G H) : Ext p l G H G H := ⟨W, Same.refl G, fun _ _ _ _ h => h, fun _ _ _ h => h⟩
theorem Ext.trans (a : Ext p l G H G1 H1) (W : Wd p l G H) (b : Ext p l G1 H1 G2 H2) : Ext p l G H G2 H2 :=
  ⟨b.w, a.sub.trans b.sub, fun c o n1 n2 h => b.keep c o n1 n2 (a.keep c o n1 n2 h), fun c o h g => by
    have g1 := a.new c o h g
    by_cases n1 : c = p
    · subst n1; exact b.w.gp
    · by_cases n2 : c = l
      · subst n2; exact b.w.gl
      · exact b.new c o (a.keep c o n1 n2 h) g1⟩
/-- a new object, kept in G -/
theorem Wd.put (W : Wd p l G H) {a : Addr} {o : HO} (h : H a = none) : Ext p l G H (upd G a o) (upd H a o) := by
  have ga : G a = none := W.same.free h
  have np := W.np h
  have nl := W.nl h
  refine ⟨⟨fun b u q => ?_, by rw [upd_ne np.symm]; exact W.gp, by rw [upd_ne nl.symm]; exact W.gl, ?_, ?_⟩, fun b u q => ?_, fun b u _ _ q => ?_, fun b u q g => ?_⟩
  · by_cases e : b = a
    · subst e; rw [upd_same] at q ⊢; exact q
    · rw [upd_ne e] at q ⊢; exact W.same b u q
  · obtain ⟨m, t, m0, m1, e⟩ := W.dk
    exact ⟨m, t, m0, m1, by rw [upd_ne np.symm]; exact e⟩
  · obtain ⟨ns, z, e⟩ := W.ls
    exact ⟨ns, z, by rw [upd_ne nl.symm]; exact e⟩
  · rw [upd_ne (ne_of_none q ga)]; exact q
  · rw [upd_ne (ne_of_none q h)]; exact q
  · rw [upd_ne (ne_of_none q h)]; exact g
/-- a new object, not kept in G -/
theorem Wd.tmp (W : Wd p l G H) {a : Addr} {o : HO} (h : H a = none) : Ext p l G H G (upd H a o) := by
  have ga : G a = none := W.same.free h
  have np := W.np h
  have nl := W.nl h
  refine ⟨⟨fun b u q => ?_, W.gp, W.gl, ?_, ?_⟩, Same.refl G, fun b u _ _ q => ?_, fun b u q g => g⟩
  · rw [upd_ne (ne_of_none q ga)]; exact W.same b u q
  · obtain ⟨m, t, m0, m1, e⟩ := W.dk
    exact ⟨m, t, m0, m1, by rw [upd_ne np.symm]; exact e⟩
  · obtain ⟨ns, z, e⟩ := W.ls
    exact ⟨ns, z, by rw [upd_ne nl.symm]; exact e⟩
  · rw [upd_ne (ne_of_none q h)]; exact q
/-- an object of one's own, not in G, is changed -/
theorem Wd.own (W : Wd p l G H) {a : Addr} {o : HO} (hp : a ≠ p) (hl : a ≠ l) (hg : G a = none) : Wd p l G (upd H a o) := by
  refine ⟨fun b u q => ?_, W.gp, W.gl, ?_, ?_⟩
  · rw [upd_ne (ne_of_none q hg)]; exact W.same b u q
  · obtain ⟨m, t, m0, m1, e⟩ := W.dk
    exact ⟨m, t, m0, m1, by rw [upd_ne hp.symm]; exact e⟩
  · obtain ⟨ns, z, e⟩ := W.ls
    exact ⟨ns, z, by rw [upd_ne hl.symm]; exact e⟩
/-- an object of one's own is kept from now on -/
theorem Wd.hold (W : Wd p l G H) {a : Addr} {o : HO} (hp : a ≠ p) (hl : a ≠ l) (hg : G a = none) (h : H a = some o) : Wd p l (upd G a o) H ∧ Same G (upd G a o) := by
  refine ⟨⟨fun b u q => ?_, by rw [upd_ne hp.symm]; exact W.gp, by rw [upd_ne hl.symm]; exact W.gl, W.dk, W.ls⟩, fun b u q => ?_⟩
  · by_cases e : b = a
    · subst e; rw [upd_same] at q; rw [← q]; exact h
    · rw [upd_ne e] at q; exact W.same b u q
  · rw [upd_ne (ne_of_none q hg)]; exact q
end
end L2.Hx

/-! How long the text of data can be. -/
namespace L2.Hx
open PySem PySem.Spec PyProof.Rows
mutual
def okB : PyData → Bool
  | .none | .bool _ => true
  | .int i => decide (i.natAbs.log2 < 1920)
  | .str x => x.cps.toList.all fun c => decide (c < 1114112)
  | .list xs | .tuple xs => okAll xs
  | .dict kvs => okKv kvs
def okAll : List PyData → Bool
  | [] => true
  | x :: xs => okB x && okAll xs
def okKv : List (PyData × PyData) → Bool
  | [] => true
  | (k, v) :: r => okB k && okB v && okKv r
end
mutual
/-- no less than the signs of its text -/
def siz : PyData → Nat
  | .none | .bool _ => 5
  | .int _ => 1921
  | .str x => 10 * x.length + 2
  | .list xs | .tuple xs => sizAll xs + 3
  | .dict kvs => sizKv kvs + 2
def sizAll : List PyData → Nat
  | [] => 0
  | x :: xs => siz x + 2 + sizAll xs
def sizKv : List (PyData × PyData) → Nat
  | [] => 0
  | (k, v) :: r => siz k + siz v + 4 + sizKv r
end
theorem okAll_of : ∀ {xs : List PyData}, (∀ x ∈ xs, okB x = true) → okAll xs = true
  | [], _ => rfl
  | x :: xs, h => by
    rw [okAll, h x List.mem_cons_self, okAll_of fun y m => h y (List.mem_cons_of_mem _ m)]
    rfl
theorem sizAll_le {n : Nat} : ∀ {xs : List PyData}, (∀ x ∈ xs, siz x ≤ n) → sizAll xs ≤ (n + 2) * xs.length
  | [], _ => by simp [sizAll]
  | x :: xs, h => by
    have h1 := h x List.mem_cons_self
    have h2 := sizAll_le fun y m => h y (List.mem_cons_of_mem x m)
    rw [sizAll, List.length_cons, Nat.mul_add, Nat.mul_one]
    omega
theorem depthAll_le {n : Nat} : ∀ {xs : List PyData}, (∀ x ∈ xs, x.depth ≤ n) → PyData.depthAll xs ≤ n
  | [], _ => by simp [PyData.depthAll]
  | x :: xs, h => by
    have h1 := h x List.mem_cons_self
    have h2 := depthAll_le fun y m => h y (List.mem_cons_of_mem x m)
    rw [PyData.depthAll]
    omega
theorem textFrom0 (ts : List Str) (acc : Str) : (textFrom 0 acc ts).length ≤ acc.length + piled ts := by
  have h := textFrom_len ts 0 acc
  cases ts with
  | nil => exact Nat.le_add_right _ _
  | cons t r =>
    show (textFrom 1 (acc ++ t) r).length ≤ _
    rw [textFrom_length_pos r 1 (acc ++ t) Nat.one_pos, strLen_append, piled_cons]
    omega
theorem listText_le (ts : List Str) : (listText ts).length ≤ piled ts + 2 := by
  have h := textFrom0 ts "["
  unfold listText
  rw [strLen_append]
  have e1 : (("[" : Str)).length = 1 := rfl
  have e2 : (("]" : Str)).length = 1 := rfl
  omega
theorem dictText_le (ts : List Str) : (dictText ts).length ≤ piled ts + 2 := by
  have e1 : (("{" : Str)).length = 1 := rfl
  have e2 : (("}" : Str)).length = 1 := rfl
  unfold dictText
  rw [strLen_append, strLen_append]
  by_cases h : ts = []
  · subst h
    decide +kernel
  · have := join_length_add ts h
    omega
theorem int_len {i : Int} (h : i.natAbs.log2 < 1920) : (Str.ofString (toString i)).length ≤ 1921 := by
  have e := int_text_length_le (k := 1920) (by decide) h
  rw [PySem.ofString_length]
  omega
mutual
theorem ok_show : ∀ {d : PyData}, okB d = true → d.showable = true ∧ d.shown.length ≤ siz d
  | .none, _ => ⟨rfl, by simp only [PyData.shown, siz]; decide⟩
  | .bool b, _ => ⟨rfl, by simp only [PyData.shown, siz]; cases b <;> decide⟩
  | .int i, h => ⟨by simpa [PyData.showable, okB] using h, by simp only [PyData.shown, siz]; exact int_len (by simpa [okB] using h)⟩
  | .str x, h => ⟨rfl, by
      simp only [PyData.shown, siz]
      rw [okB, List.all_eq_true] at h
      exact StrLaws.reprText_len x fun c m => Nat.lt_trans (of_decide_eq_true (h c m)) (by decide)⟩
  | .list xs, h => by
    obtain ⟨a, b⟩ := ok_showAll (xs := xs) (by simpa [okB] using h)
    refine ⟨by simpa [PyData.showable] using a, ?_⟩
    simp only [PyData.shown, siz]
    exact Nat.le_trans (listText_le _) (by omega)
  | .tuple xs, h => by
    obtain ⟨a, b⟩ := ok_showAll (xs := xs) (by simpa [okB] using h)
    refine ⟨by simpa [PyData.showable] using a, ?_⟩
    simp only [PyData.shown, siz]
    exact Nat.le_trans (fmt_text _) (by omega)
  | .dict kvs, h => by
    obtain ⟨a, b⟩ := ok_showKv (kvs := kvs) (by simpa [okB] using h)
    refine ⟨by simpa [PyData.showable] using a, ?_⟩
    simp only [PyData.shown, siz]
    exact Nat.le_trans (dictText_le _) (by omega)
theorem ok_showAll : ∀ {xs : List PyData}, okAll xs = true → PyData.showableAll xs = true ∧ piled (PyData.shownAll xs) ≤ sizAll xs
  | [], _ => ⟨rfl, by simp [PyData.shownAll, piled_nil]⟩
  | x :: xs, h => by
    rw [okAll, Bool.and_eq_true] at h
    obtain ⟨a, b⟩ := ok_show h.1
    obtain ⟨c, d⟩ := ok_showAll h.2
    refine ⟨by rw [PyData.showableAll, a, c]; rfl, ?_⟩
    rw [PyData.shownAll, piled_cons, sizAll]
    omega
theorem ok_showKv : ∀ {kvs : List (PyData × PyData)}, okKv kvs = true → PyData.showableKv kvs = true ∧ piled (PyData.shownKv kvs) ≤ sizKv kvs
  | [], _ => ⟨rfl, by simp [PyData.shownKv, piled_nil]⟩
  | (k, v) :: r, h => by
    rw [okKv, Bool.and_eq_true, Bool.and_eq_true] at h
    obtain ⟨a, b⟩ := ok_show h.1.1
    obtain ⟨a2, b2⟩ := ok_show h.1.2
    obtain ⟨c, d⟩ := ok_showKv h.2
    refine ⟨by rw [PyData.showableKv, a, a2, c]; rfl, ?_⟩
    rw [PyData.shownKv, piled_cons, sizKv, strLen_append, strLen_append]
    have e1 : ((": " : Str)).length = 2 := rfl
    omega
end
/-- data that repr can tell: at most k deep, of a text of at most n signs -/
structure Okd (k n : Nat) (d : PyData) : Prop where
  ok : okB d = true
  dp : d.depth ≤ k
  sz : siz d ≤ n
theorem Okd.mono {k n k2 n2 : Nat} {d : PyData} (h : Okd k n d) (hk : k ≤ k2 := by decide) (hn : n ≤ n2 := by decide) : Okd k2 n2 d := ⟨h.ok, Nat.le_trans h.dp hk, Nat.le_trans h.sz hn⟩
theorem Okd.tup {k n m N : Nat} {ds : List PyData} (h : ∀ d ∈ ds, Okd k n d) (hl : ds.length ≤ m) (hN : (n + 2) * m + 3 ≤ N := by decide) : Okd (k + 1) N (.tuple ds) := by
  refine ⟨okAll_of fun d hd => (h d hd).ok, ?_, ?_⟩
  · have := depthAll_le fun d hd => (h d hd).dp
    simp only [PyData.depth]
    omega
  · have h1 := sizAll_le fun d hd => (h d hd).sz
    have h2 : (n + 2) * ds.length ≤ (n + 2) * m := Nat.mul_le_mul_left _ hl
    show sizAll ds + 3 ≤ N
    omega
theorem Okd.list {k n m N : Nat} {ds : List PyData} (h : ∀ d ∈ ds, Okd k n d) (hl : ds.length ≤ m) (hN : (n + 2) * m + 3 ≤ N := by decide) : Okd (k + 1) N (.list ds) := by
  have a := Okd.tup h hl hN
  exact ⟨a.ok, a.dp, a.sz⟩
theorem Okd.kids {k n : Nat} {ds : List PyData} (h : Okd (k + 1) n (.tuple ds)) : ∀ d ∈ ds, Okd k n d := by
  have h1 : okAll ds = true := h.ok
  have h2 : PyData.depthAll ds ≤ k := by
    have := h.dp
    simp only [PyData.depth] at this
    omega
  have h3 : sizAll ds ≤ n := by
    have := h.sz
    rw [siz] at this
    omega
  clear h
  induction ds with
  | nil => intro d hd; cases hd
  | cons x xs ih =>
    rw [okAll, Bool.and_eq_true] at h1
    rw [PyData.depthAll] at h2
    rw [sizAll] at h3
    intro d hd
    rcases List.mem_cons.mp hd with rfl | hd
    · exact ⟨h1.1, by omega, by omega⟩
    · exact ih h1.2 (by omega) (by omega) d hd
theorem Okd.shown {k n : Nat} {d : PyData} (h : Okd k n d) (hk : k ≤ 60) (hn : n ≤ sizeLine) : d.showable = true ∧ d.depth ≤ 60 ∧ d.shown.length ≤ sizeLine :=
  let ⟨a, b⟩ := ok_show h.ok
  ⟨a, Nat.le_trans h.dp hk, Nat.le_trans b (Nat.le_trans h.sz hn)⟩
end L2.Hx

/-! What a saying is, twice: as the program looks, and as the law does. -/
namespace L2.Hx
open PySem PySem.Spec PyProof.Rows
def w_WORDS : List Str := ["nil", "result", "fun", "head", "foot", "with", "var", "if", "else", "while", "keep", "new", "free", "any", "cell", "list", "empty", "is", "isnt"]
def w_LOOK_WORDS : List Str := ["is", "isnt"]
def w_PART_WORDS : List Str := ["cell", "list"]
def w_nr : List Str := ["nil", "result"]
def abc : List Nat := ("abcdefghijklmnopqrstuvwxyz" : Str).cps.toList
def letters (z : Str) : Bool := z.cps.toList.all fun c => decide (c ∈ abc)
def lenOk (z : Str) : Bool := decide (1 ≤ (z.length : Int)) && decide ((z.length : Int) ≤ 8)
def nameP (d : PyData) : Bool := match d with
  | .str z => lenOk z && (!decide (z ∈ w_WORDS) && letters z)
  | _ => false
def termP (d : PyData) : Bool := inWs d w_nr || nameP d
def termL (d : PyData) : Bool := match d with
  | .str z => lenOk z && (letters z && (decide (z ∈ w_nr) || !decide (z ∈ w_WORDS)))
  | _ => false
theorem term_eq (d : PyData) : termP d = termL d := by
  cases d with
  | str z =>
    by_cases h : z ∈ w_nr
    · rcases List.mem_cons.mp h with e | h2
      · subst e
        decide +kernel
      · rcases List.mem_cons.mp h2 with e | h3
        · subst e
          decide +kernel
        · cases h3
    · have e1 : decide (z ∈ w_nr) = false := decide_eq_false h
      show (decide (z ∈ w_nr) || (lenOk z && (!decide (z ∈ w_WORDS) && letters z))) = (lenOk z && (letters z && (decide (z ∈ w_nr) || !decide (z ∈ w_WORDS))))
      rw [e1, Bool.false_or, Bool.false_or]
      cases lenOk z <;> cases letters z <;> cases decide (z ∈ w_WORDS) <;> rfl
  | _ => rfl
def rowD (ws : List Str) (d : PyData) : Bool := match d with
  | .tuple [a, b, c] => inWs a ws && (termL b && termL c)
  | _ => false
def rowsD (ws : List Str) (most : Int) (d : PyData) : Bool := match d with
  | .tuple ds => decide ((ds.length : Int) ≤ most) && ds.all (rowD ws)
  | _ => false
def clauseD (d : PyData) : Bool := match d with
  | .tuple [a, b] => rowsD w_LOOK_WORDS 30 a && rowsD w_PART_WORDS 8 b
  | _ => false
/-- from the i-th item on -/
def dueFrom (i : Nat) : List PyData → PyData
  | [] => .none
  | d :: ds => if clauseD d then dueFrom (i + 1) ds else .tuple [.str "clause", .int i]
def dueD (d : PyData) : PyData := match d with
  | .tuple ds => if 1 ≤ ds.length ∧ ds.length ≤ 64 then dueFrom 0 ds else .str "form"
  | _ => .str "form"
theorem dueFrom_ok : ∀ (ds : List PyData) (i : Nat), (∀ d ∈ ds, clauseD d = true) → dueFrom i ds = .none
  | [], _, _ => rfl
  | d :: ds, i, h => by
    rw [dueFrom, if_pos (h d List.mem_cons_self)]
    exact dueFrom_ok ds (i + 1) fun e m => h e (List.mem_cons_of_mem _ m)
theorem dueFrom_okd : ∀ (ds : List PyData) (i : Nat), i + ds.length ≤ 100 → Okd 1 5000 (dueFrom i ds)
  | [], i, _ => ⟨rfl, by simp [dueFrom, PyData.depth], by show 5 ≤ 5000; decide⟩
  | d :: ds, i, h => by
    rw [List.length_cons] at h
    rw [dueFrom]
    split
    · exact dueFrom_okd ds (i + 1) (by omega)
    · have h1 : okB (.int (i : Int)) = true := by
        rw [okB]
        refine decide_eq_true ?_
        have h7 : (i : Int).natAbs < 2 ^ 7 := by omega
        exact Nat.lt_trans (PySem.Flt.log2_lt_of (by decide) h7) (by decide)
      have h2 : okB (.str "clause") = true := by decide +kernel
      refine ⟨by rw [okB, okAll, okAll, okAll, h1, h2]; rfl, by simp [PyData.depth, PyData.depthAll], ?_⟩
      show siz (.str "clause") + 2 + (1921 + 2 + 0) + 3 ≤ 5000
      have : siz (.str "clause") = 62 := by decide +kernel
      omega
theorem due_okd (d : PyData) : Okd 1 5000 (dueD d) := by
  have hf : Okd 1 5000 (.str "form") := ⟨by decide +kernel, by simp [PyData.depth], by decide +kernel⟩
  cases d with
  | tuple ds =>
    show Okd 1 5000 (if 1 ≤ ds.length ∧ ds.length ≤ 64 then dueFrom 0 ds else .str "form")
    split
    · exact dueFrom_okd ds 0 (by omega)
    · exact hf
  | _ => exact hf
/-- the size of an item -/
theorem siz_kid {d : PyData} : ∀ {ds : List PyData}, d ∈ ds → siz d ≤ siz (.tuple ds) := by
  intro ds h
  rw [siz]
  induction ds with
  | nil => cases h
  | cons x xs ih =>
    rw [sizAll]
    rcases List.mem_cons.mp h with rfl | h
    · omega
    · have := ih h
      omega
/-- data that the looks take -/
structure Fit (d : PyData) : Prop where
  ok : okB d = true
  sz : siz d ≤ sizeLine
theorem okAll_mem {d : PyData} : ∀ {ds : List PyData}, okAll ds = true → d ∈ ds → okB d = true
  | x :: xs, h, m => by
    rw [okAll, Bool.and_eq_true] at h
    rcases List.mem_cons.mp m with rfl | m
    · exact h.1
    · exact okAll_mem h.2 m
theorem Fit.kid {d : PyData} {ds : List PyData} (h : Fit (.tuple ds)) (m : d ∈ ds) : Fit d :=
  ⟨okAll_mem (show okAll ds = true from h.ok) m, Nat.le_trans (siz_kid m) h.sz⟩
theorem siz_len : ∀ ds : List PyData, ds.length ≤ siz (.tuple ds) := by
  intro ds
  rw [siz]
  induction ds with
  | nil => simp
  | cons x xs ih =>
    rw [sizAll, List.length_cons]
    omega
theorem siz_str (z : Str) : z.length ≤ siz (.str z) := by
  rw [siz]
  omega
end L2.Hx

/-! Expressions that lay data: what they come to, by its size. -/
namespace L2.Hx
open PySem PySem.Spec PyProof.Rows

/-! ### t != () -/
def rNeNil (K : PySem.W.Frag) : R2 := fun x y H Q => ∃ a b xs, x = .ref a ∧ y = .ref b ∧ SqT K H a xs ∧ SqT K H b [] ∧ Q (.bl (!xs.isEmpty)) H
theorem op_neNil {X : Cx} (hu : X.A.units + 64 < cLine) : OpR X (compareOp .NotEq) (rNeNil X.K) := by
  intro pins s σ H x y v u Q I rx ry h
  obtain ⟨a, b, xs, rfl, rfl, ha, hb, q⟩ := h
  cases rx
  cases ry
  obtain ⟨its, r1, p1, _⟩ := I.tuple ha
  obtain ⟨its2, r2, p2, _⟩ := I.tuple hb
  cases r2
  refine SeqAt.RcNeAt.tuples (e := fun _ => true) p1 p2 (by omega) (fun j h1 h2 => absurd h2 (by simp)) _ _ _ _ ⟨.bl _, H, I, rfl, ?_⟩
  have hl := r1.length
  have e : (!((List.range (min its.toArray.size ([] : List Value).toArray.size)).all (fun _ => true) && its.toArray.size == ([] : List Value).toArray.size)) = !xs.isEmpty := by
    cases xs with
    | nil =>
      cases r1
      rfl
    | cons x xs =>
      cases r1
      rfl
  rw [e]
  exact q

/-- all m of at most these depths and sizes -/
def All (k n m : Nat) (ds : List PyData) : Prop := ds.length = m ∧ ∀ d ∈ ds, Okd k n d
/-- a tuple of at most m such -/
def Tp (k n m : Nat) (d : PyData) : Prop := ∃ ds, d = .tuple ds ∧ ds.length ≤ m ∧ ∀ x ∈ ds, Okd k n x
/-- a list of at most m such, not empty -/
def Ls (k n m : Nat) (d : PyData) : Prop := ∃ ds, d = .list ds ∧ 0 < ds.length ∧ ds.length ≤ m ∧ ∀ x ∈ ds, Okd k n x
theorem Tp.okd {k n m N : Nat} {d : PyData} (h : Tp k n m d) (hN : (n + 2) * m + 3 ≤ N := by decide) : Okd (k + 1) N d := by
  obtain ⟨ds, rfl, hl, h⟩ := h
  exact Okd.tup h hl hN
theorem Ls.okd {k n m N : Nat} {d : PyData} (h : Ls k n m d) (hN : (n + 2) * m + 3 ≤ N := by decide) : Okd (k + 1) N d := by
  obtain ⟨ds, rfl, _, hl, h⟩ := h
  exact Okd.list h hl hN
theorem Tp.mono {k n m k2 n2 m2 : Nat} {d : PyData} (h : Tp k n m d) (hk : k ≤ k2 := by decide) (hn : n ≤ n2 := by decide) (hm : m ≤ m2 := by decide) : Tp k2 n2 m2 d := by
  obtain ⟨ds, rfl, hl, h⟩ := h
  exact ⟨ds, rfl, Nat.le_trans hl hm, fun x m => (h x m).mono hk hn⟩
theorem Okd.tp {k n : Nat} {ds : List PyData} (h : Okd (k + 1) n (.tuple ds)) {m : Nat} (hl : ds.length ≤ m) : Tp k n m (.tuple ds) := ⟨ds, rfl, hl, h.kids⟩

section
variable (K : PySem.W.Frag) (p l : Addr) (σ : St) (G : Hp)
/-- whatever the heap, what comes is such data; the deck may be drawn from -/
def TD (t : TE) (φ : PyData → Prop) : Prop := ∀ (G1 H : Hp) (Q : VK), Wd p l G1 H → Same G G1 → (∀ v d G2 H2, Ext p l G1 H G2 H2 → Da K G2 v d → φ d → Q v H2) → t σ H Q
def TDs (t : TA) (Φ : List PyData → Prop) : Prop := ∀ (G1 H : Hp) (Q : List V → Hp → Prop), Wd p l G1 H → Same G G1 → (∀ vs ds G2 H2, Ext p l G1 H G2 H2 → DaAll K G2 vs ds → Φ ds → Q vs H2) → t σ H Q
end
/-- a slice's end -/
def TPt (σ : St) (t : TO) : Prop := ∀ (H : Hp) (Q : Option Int → Hp → Prop), (∀ o, Q o H) → t σ H Q
section
variable {K : PySem.W.Frag} {p l : Addr} {σ : St} {G : Hp} {t ta tb : TE} {tr : TA} {φ ψ : PyData → Prop} {Φ : List PyData → Prop} {k n m : Nat}
theorem TD.imp (h : TD K p l σ G t φ) (hi : ∀ d, φ d → ψ d) : TD K p l σ G t ψ := fun G1 H Q W s k => h G1 H Q W s fun v d G2 H2 e da f => k v d G2 H2 e da (hi d f)
theorem TD.run {H : Hp} {Q : VK} (h : TD K p l σ G t φ) (W : Wd p l G H) (k : ∀ v d G2 H2, Ext p l G H G2 H2 → Da K G2 v d → φ d → Q v H2) : t σ H Q := h G H Q W (Same.refl G) k
theorem TD.asg {H : Hp} {D : Ends} {i : Nat} (h : TD K p l σ G t φ) (W : Wd p l G H) (k : ∀ v d G2 H2, Ext p l G H G2 H2 → Da K G2 v d → φ d → D.nx (σ.set i (some v)) H2) : tAsg t (gName i) D σ H := h G H _ W (Same.refl G) k
theorem TD.asgG {H : Hp} {D : Ends} {g : TG} (h : TD K p l σ G t φ) (W : Wd p l G H) (k : ∀ v d G2 H2, Ext p l G H G2 H2 → Da K G2 v d → φ d → g v σ H2 D.nx) : tAsg t g D σ H := h G H _ W (Same.refl G) k
theorem TD.ret {H : Hp} {D : Ends} (h : TD K p l σ G t φ) (W : Wd p l G H) (k : ∀ v d G2 H2, Ext p l G H G2 H2 → Da K G2 v d → φ d → D.rt v H2) : tRet t D σ H := h G H _ W (Same.refl G) k
theorem TD.flat {v : V} {d : PyData} (hd : ∀ G, Da K G v d) (hf : φ d) : TD K p l σ G (tC v) φ := fun G1 H Q W _ k => k _ _ _ _ (Ext.refl W) (hd _) hf
theorem td_str {x : Str} (h : okB (.str x) = true := by decide +kernel) (hn : siz (.str x) ≤ n := by decide +kernel) : TD K p l σ G (tC (.str x)) (Okd k n) := .flat (fun _ => .str x) ⟨h, Nat.zero_le _, hn⟩
theorem td_int {i : Int} (h : i.natAbs.log2 < 1920 := by decide) (hn : 1921 ≤ n := by decide) : TD K p l σ G (tC (.int i)) (Okd k n) := .flat (fun _ => .int i) ⟨decide_eq_true h, Nat.zero_le _, hn⟩
theorem td_non (hn : 5 ≤ n := by decide) : TD K p l σ G (tC .non) (Okd k n) := .flat (fun _ => .non) ⟨rfl, Nat.zero_le _, hn⟩
theorem td_bl {b : Bool} (hn : 5 ≤ n := by decide) : TD K p l σ G (tC (.bl b)) (Okd k n) := .flat (fun _ => .bl b) ⟨rfl, Nat.zero_le _, hn⟩
theorem td_var {i : Nat} {v : V} {d : PyData} (hi : σ[i]? = some (some v)) (hd : Da K G v d) (hf : φ d) : TD K p l σ G (tVar i) φ := fun G1 H Q W s k => ⟨v, hi, k _ _ _ _ (Ext.refl W) (hd.mono s) hf⟩
theorem tds_nil : TDs K p l σ G tNil (All k n 0) := fun G1 H Q W _ k => k _ _ _ _ (Ext.refl W) .nil ⟨rfl, fun d h => absurd h List.not_mem_nil⟩
theorem tds_cons (h : TD K p l σ G t (Okd k n)) (hr : TDs K p l σ G tr (All k n m)) : TDs K p l σ G (tCons t tr) (All k n (m + 1)) := fun G1 H Q W s k =>
  h G1 H _ W s fun v d G2 H2 e da f => hr G2 H2 _ e.w (s.trans e.sub) fun vs ds G3 H3 e3 das f3 => k _ _ _ _ (e.trans W e3) (.cons (da.mono e3.sub) das)
    ⟨by rw [List.length_cons, f3.1], fun x mx => by
      rcases List.mem_cons.mp mx with rfl | mx
      · exact f
      · exact f3.2 x mx⟩
/-- for arguments of any kinds -/
theorem tds_consP (h : TD K p l σ G t φ) (hr : TDs K p l σ G tr Φ) : TDs K p l σ G (tCons t tr) (fun ds => ∃ d r, ds = d :: r ∧ φ d ∧ Φ r) := fun G1 H Q W s k =>
  h G1 H _ W s fun v d G2 H2 e da f => hr G2 H2 _ e.w (s.trans e.sub) fun vs ds G3 H3 e3 das f3 => k _ _ _ _ (e.trans W e3) (.cons (da.mono e3.sub) das) ⟨d, ds, rfl, f, f3⟩
theorem tds_nilP : TDs K p l σ G tNil (fun ds => ds = []) := fun G1 H Q W _ k => k _ _ _ _ (Ext.refl W) .nil rfl
theorem td_tupP (h : TDs K p l σ G tr Φ) (hz : ∀ ds, Φ ds → ds.length ≤ sizeLine) : TD K p l σ G (tTup tr) (fun d => ∃ ds, d = .tuple ds ∧ Φ ds) := fun G1 H Q W s k =>
  h G1 H _ W s fun vs ds G2 H2 e da f => ⟨by rw [da.length]; exact hz ds f, fun a ha => k _ _ _ _ (e.trans W (e.w.put ha)) (.tup (SqT.of upd_same) (da.mono (e.w.put (o := .tup vs) ha).sub)) ⟨ds, rfl, f⟩⟩
theorem td_tup (h : TDs K p l σ G tr (All k n m)) (hz : m ≤ sizeLine := by decide) : TD K p l σ G (tTup tr) (Tp k n m) :=
  (td_tupP h fun ds f => by rw [f.1]; exact hz).imp fun d ⟨ds, e, f⟩ => ⟨ds, e, Nat.le_of_eq f.1, f.2⟩
theorem td_lst (h : TDs K p l σ G tr (All k n (m + 1))) (hz : m + 1 ≤ sizeLine := by decide) : TD K p l σ G (tLst tr) (Ls k n (m + 1)) := fun G1 H Q W s k =>
  h G1 H _ W s fun vs ds G2 H2 e da f => ⟨by rw [da.length, f.1]; exact hz, fun a ha => k _ _ _ _ (e.trans W (e.w.put ha)) (.lst upd_same (da.mono (e.w.put (o := .lst vs) ha).sub)) ⟨ds, rfl, by rw [f.1]; omega, Nat.le_of_eq f.1, f.2⟩⟩
theorem td_lst0 (hn : 3 ≤ n := by decide) : TD K p l σ G (tLst tNil) (Okd (k + 1) n) := fun G1 H Q W s k => ⟨Nat.zero_le _, fun a ha => k _ _ _ _ (W.put ha) (.lst upd_same .nil) ⟨rfl, by simp [PyData.depth, PyData.depthAll], hn⟩⟩
theorem td_tup0 : TD K p l σ G (tTup tNil) (Tp k n 0) := fun G1 H Q W s k => ⟨Nat.zero_le _, fun a ha => k _ _ _ _ (W.put ha) (.tup (SqT.of upd_same) .nil) ⟨[], rfl, Nat.le_refl _, fun x h => absurd h List.not_mem_nil⟩⟩
theorem td_dict0 (hn : 2 ≤ n := by decide) : TD K p l σ G tDNewK (Okd (k + 1) n) := fun G1 H Q W s k => fun a ha => k _ _ _ _ (W.put ha) (Da.dct (kvs := []) upd_same .nil) ⟨rfl, by simp [PyData.depth, PyData.depthKv], hn⟩
theorem Da.tpI {G : Hp} {v : V} {d : PyData} (h : Da K G v d) (f : Tp k n m d) : ∃ a xs ds, v = .ref a ∧ d = .tuple ds ∧ SqT K G a xs ∧ DaAll K G xs ds ∧ ds.length ≤ m ∧ ∀ x ∈ ds, Okd k n x := by
  obtain ⟨ds, rfl, h1, h2⟩ := f
  cases h with
  | tup a b => exact ⟨_, _, ds, rfl, rfl, a, b, h1, h2⟩
theorem Da.lsI {G : Hp} {v : V} {d : PyData} (h : Da K G v d) (f : Ls k n m d) : ∃ a xs ds, v = .ref a ∧ d = .list ds ∧ G a = some (.lst xs) ∧ DaAll K G xs ds ∧ 0 < ds.length ∧ ds.length ≤ m ∧ ∀ x ∈ ds, Okd k n x := by
  obtain ⟨ds, rfl, h0, h1, h2⟩ := f
  cases h with
  | lst a b => exact ⟨_, _, ds, rfl, rfl, a, b, h0, h1, h2⟩
/-- t + u, tuples -/
theorem td_catA {m2 : Nat} (ha : TD K p l σ G ta (Tp k n m)) (hb : TD K p l σ G tb (Tp k n m2)) (hz : m + m2 ≤ sizeLine := by decide) : TD K p l σ G (tOp (rCatA K) ta tb) (Tp k n (m + m2)) := fun G1 H Q W s k =>
  ha G1 H _ W s fun v d G2 H2 e da f => hb G2 H2 _ e.w (s.trans e.sub) fun u d2 G3 H3 e3 da3 f3 => by
    obtain ⟨a, xs, ds, rfl, rfl, t1, a1, l1, o1⟩ := da.tpI f
    obtain ⟨b, ys, es, rfl, rfl, t2, a2, l2, o2⟩ := da3.tpI f3
    have E := e.trans W e3
    refine ⟨a, b, xs, ys, rfl, rfl, sameT (e3.sub.trans e3.w.same) t1, sameT e3.w.same t2, by rw [a1.length, a2.length]; omega, fun hx => ?_, fun hx hy => ?_, fun hx hy c hc => ?_⟩
    · exact k _ _ _ _ E da3 ⟨es, rfl, by omega, o2⟩
    · exact k _ _ _ _ E (da.mono e3.sub) ⟨ds, rfl, by omega, o1⟩
    · have e4 := e3.w.put (o := .tup (xs ++ ys)) hc
      refine k _ _ _ _ (E.trans W e4) (.tup (SqT.of upd_same) ((a1.mono (e3.sub.trans e4.sub)).append (a2.mono e4.sub))) ⟨ds ++ es, rfl, by rw [List.length_append]; omega, fun x mx => ?_⟩
      rcases List.mem_append.mp mx with mx | mx
      · exact o1 x mx
      · exact o2 x mx
/-- xs + ys, lists -/
theorem td_cat {m2 : Nat} (ha : TD K p l σ G ta (Ls k n m)) (hb : TD K p l σ G tb (Ls k n m2)) (hz : m + m2 ≤ sizeLine := by decide) : TD K p l σ G (tOp rCat ta tb) (Ls k n (m + m2)) := fun G1 H Q W s k =>
  ha G1 H _ W s fun v d G2 H2 e da f => hb G2 H2 _ e.w (s.trans e.sub) fun u d2 G3 H3 e3 da3 f3 => by
    obtain ⟨a, xs, ds, rfl, rfl, t1, a1, z1, l1, o1⟩ := da.lsI f
    obtain ⟨b, ys, es, rfl, rfl, t2, a2, z2, l2, o2⟩ := da3.lsI f3
    have E := e.trans W e3
    refine ⟨a, b, xs, ys, rfl, rfl, (e3.sub.trans e3.w.same) _ _ t1, e3.w.same _ _ t2, by rw [a1.length, a2.length]; omega, fun c hc => ?_⟩
    have e4 := e3.w.put (o := .lst (xs ++ ys)) hc
    refine k _ _ _ _ (E.trans W e4) (.lst upd_same ((a1.mono (e3.sub.trans e4.sub)).append (a2.mono e4.sub))) ⟨ds ++ es, rfl, by rw [List.length_append]; omega, by rw [List.length_append]; omega, fun x mx => ?_⟩
    rcases List.mem_append.mp mx with mx | mx
    · exact o1 x mx
    · exact o2 x mx
/-- t[lo:hi] -/
theorem td_sl {tl th : TO} (ha : TD K p l σ G ta (Tp k n m)) (hl : TPt σ tl) (hh : TPt σ th) : TD K p l σ G (tSl (rSlA K) ta tl th) (Tp k n m) := fun G1 H Q W s k =>
  ha G1 H _ W s fun v d G2 H2 e da f => hl H2 _ fun lo => hh H2 _ fun hi => by
    obtain ⟨a, xs, ds, rfl, rfl, t1, a1, l1, o1⟩ := da.tpI f
    refine ⟨a, xs, rfl, sameT e.w.same t1, fun _ => k _ _ _ _ e da ⟨ds, rfl, l1, o1⟩, fun _ c hc => ?_⟩
    have e4 := e.w.put (o := .tup (cutV xs lo hi)) hc
    refine k _ _ _ _ (e.trans W e4) (.tup (SqT.of upd_same) ((((a1.drop _).take _).mono e4.sub))) ⟨_, rfl, ?_, fun x mx => o1 x (List.mem_of_mem_drop (List.mem_of_mem_take mx))⟩
    rw [List.length_take, List.length_drop]
    omega
theorem tp_none : TPt σ tNoPart := fun H Q h => h none
theorem tp_int {i : Int} : TPt σ (tPart (tC (.int i))) := fun H Q h => ⟨i, rfl, h _⟩
theorem tp_var {i : Nat} {z : Int} (hi : σ[i]? = some (some (.int z))) : TPt σ (tPart (tVar i)) := fun H Q h => ⟨_, hi, _, rfl, h _⟩
theorem tp_add {i : Nat} {z c : Int} (hi : σ[i]? = some (some (.int z))) : TPt σ (tPart (tOp (rI0 fun i j => .int (i + j)) (tVar i) (tC (.int c)))) := fun H Q h => ⟨_, hi, _, _, rfl, rfl, _, rfl, h _⟩
/-- (x,) * c -/
theorem td_rep {c : Int} {N : Nat} (ha : TD K p l σ G ta (fun d => ∃ x, d = .tuple [x] ∧ Okd k n x)) (h2 : 2 ≤ c := by decide) (h3 : c ≤ 1000 := by decide) (hN : c.toNat ≤ N := by decide) : TD K p l σ G (tOp (rRepT K) ta (tC (.int c))) (Tp k n N) := fun G1 H Q W s k =>
  ha G1 H _ W s fun v d G2 H2 e da f => by
    obtain ⟨x, rfl, o1⟩ := f
    cases da with
    | @tup a xs _ t1 a1 =>
      cases a1 with
      | cons b1 b2 =>
        cases b2
        rename_i y
        refine ⟨a, c, [y], rfl, rfl, sameT e.w.same t1, by simp, h2, h3, by simp, fun q hq => ?_⟩
        have e4 := e.w.put (o := .tup (List.replicate c.toNat [y]).flatten) hq
        refine k _ _ _ _ (e.trans W e4) (.tup (SqT.of upd_same) ((DaAll.flat (.cons b1 .nil) c.toNat).mono e4.sub)) ⟨_, rfl, ?_, fun z mz => ?_⟩
        · rw [PyProof.Rows.lm_len_rep_flat]
          simpa using hN
        · rw [List.mem_flatten] at mz
          obtain ⟨r, hr, mz⟩ := mz
          rw [(List.mem_replicate.mp hr).2] at mz
          rw [List.mem_singleton.mp mz]
          exact o1
/-- list(t), t a tuple -/
theorem td_list_of (ha : TD K p l σ G ta (Tp k n m)) {N : Nat} (hN : (n + 2) * m + 3 ≤ N := by decide) :
    TD K p l σ G (tCB (fun xs H Q => ∃ p ys, xs = [.ref p] ∧ (SqL K H p ys ∨ SqT K H p ys) ∧ ∀ l, H l = none → Q (.ref l) (upd H l (.lst ys))) (tCons ta tNil)) (Okd (k + 1) N) := fun G1 H Q W s k =>
  ha G1 H _ W s fun v d G2 H2 e da f => by
    obtain ⟨a, xs, ds, rfl, rfl, t1, a1, l1, o1⟩ := da.tpI f
    refine ⟨a, xs, rfl, .inr (sameT e.w.same t1), fun q hq => ?_⟩
    have e4 := e.w.put (o := .lst xs) hq
    exact k _ _ _ _ (e.trans W e4) (.lst upd_same (a1.mono e4.sub)) (Okd.list o1 l1 hN)
/-- tuple(xs), xs a list -/
theorem td_tuple_of {N : Nat} (ha : TD K p l σ G ta (fun d => ∃ ds, d = .list ds ∧ ds.length ≤ m ∧ ∀ x ∈ ds, Okd k n x)) :
    TD K p l σ G (tCB (fun xs H Q => ∃ p ys, xs = [.ref p] ∧ ((SqL K H p ys ∧ ∀ l, H l = none → Q (.ref l) (upd H l (.tup ys))) ∨ (SqT K H p ys ∧ Q (.ref p) H))) (tCons ta tNil)) (Tp k n m) := fun G1 H Q W s k =>
  ha G1 H _ W s fun v d G2 H2 e da f => by
    obtain ⟨ds, rfl, l1, o1⟩ := f
    cases da with
    | @lst a xs _ t1 a1 =>
      refine ⟨a, xs, rfl, .inl ⟨SqL.of (e.w.same _ _ t1), fun q hq => ?_⟩⟩
      have e4 := e.w.put (o := .tup xs) hq
      exact k _ _ _ _ (e.trans W e4) (.tup (SqT.of upd_same) (a1.mono e4.sub)) ⟨ds, rfl, l1, o1⟩
end
/-! ### comprehensions over a range -/
section
variable (K : PySem.W.Frag) (p l : Addr) (σ : St) (G : Hp)
/-- a range of N turns, N as told; the deck may be drawn from -/
def TW (wi : TI) (ν : Nat → Prop) : Prop := ∀ (G1 H : Hp) (R : It → Hp → Prop), Wd p l G1 H → Same G G1 → (∀ N G2 H2, ν N → Ext p l G1 H G2 H2 → R (Itr 0 N) H2) → wi σ H R
end
/-- a list whose length and items are as told -/
def LsN (ν : Nat → Prop) (φ : PyData → Prop) (d : PyData) : Prop := ∃ ds, d = .list ds ∧ ν ds.length ∧ ∀ x ∈ ds, φ x
section
variable {K : PySem.W.Frag} {p l : Addr} {σ : St} {G : Hp}
theorem set_none {j : Nat} {v : Option V} (σ : St) : ((σ.set j none).set j v).set j none = σ.set j none := by
  rw [List.set_set, List.set_set]
theorem tw_var {i : Nat} {z : Int} (hi : σ[i]? = some (some (.int z))) (h0 : 0 ≤ z) (h1 : z < 1000000) : TW p l σ G (iRng1 (tCons (tVar i) tNil)) (fun N => (N : Int) = z) := fun G1 H R W s k =>
  ⟨_, hi, z, rfl, by omega, by omega, k _ _ _ (by omega) (Ext.refl W)⟩
theorem tw_int {z : Int} (h0 : 0 ≤ z) (h1 : z < 1000000) : TW p l σ G (iRng1 (tCons (tC (.int z)) tNil)) (fun N => (N : Int) = z) := fun G1 H R W s k =>
  ⟨z, rfl, by omega, by omega, k _ _ _ (by omega) (Ext.refl W)⟩
theorem td_lc {wi : TI} {te : TE} {j M : Nat} {ν : Nat → Prop} {φ : PyData → Prop} (hw : TW p l σ G wi ν) (hM : ∀ N, ν N → N ≤ M) (hM2 : M < sizeLine) (he : ∀ i : Nat, TD K p l ((σ.set j none).set j (some (.int (0 + (i : Int))))) G te φ) :
    TD K p l σ G (tLc wi (gName j) tYes te [j]) (LsN ν φ) := fun G1 H Q W s k =>
  hw G1 H _ W s fun N G2 H2 hN e => fun D hD => by
    have nDp := e.w.np hD
    have nDl := e.w.nl hD
    have E1 := e.w.tmp (o := .lst []) hD
    refine lc_range (lo := 0) (n := N) (fun i H3 => ∃ G3 xs ds, Wd p l G3 H3 ∧ Same G2 G3 ∧ G3 D = none ∧ H3 D = some (.lst xs) ∧ DaAll K G3 xs ds ∧ ds.length = i ∧ (∀ x ∈ ds, φ x) ∧
        (∀ b o, b ≠ p → b ≠ l → b ≠ D → H2 b = some o → H3 b = some o) ∧ (∀ b o, H2 b = some o → G2 b = none → G3 b = none))
      ⟨G2, [], [], E1.w, Same.refl _, e.w.same.free hD, upd_same, .nil, rfl, fun x m => absurd m List.not_mem_nil, fun b o n1 n2 n3 q => by rw [upd_ne n3]; exact q, fun b o _ g => g⟩ ?_ ?_
    · rintro i H3 hi ⟨G3, xs, ds, w3, s3, gD, hD3, da3, l3, f3, k3, n3⟩
      refine ⟨set_none σ, ?_⟩
      show te _ _ _
      refine he i G3 H3 _ w3 ((s.trans e.sub).trans s3) fun v d G4 H4 e4 da4 f4 => ?_
      have hD4 : H4 D = some (.lst xs) := e4.keep _ _ nDp nDl hD3
      have gD4 : G4 D = none := e4.new _ _ hD3 gD
      refine ⟨xs, hD4, by rw [da3.length, l3]; exact Nat.lt_of_lt_of_le hi (Nat.le_trans (hM N hN) (Nat.le_of_lt hM2)), G4, xs ++ [v], ds ++ [d], e4.w.own nDp nDl gD4, s3.trans e4.sub, gD4, upd_same, (da3.mono e4.sub).append (.cons da4 .nil),
        by rw [List.length_append, l3]; rfl, fun x m => ?_, fun b o n1 n2 n4 q => ?_, fun b o q g => ?_⟩
      · rcases List.mem_append.mp m with m | m
        · exact f3 x m
        · rw [List.mem_singleton.mp m]
          exact f4
      · rw [upd_ne n4]
        exact e4.keep _ _ n1 n2 (k3 b o n1 n2 n4 q)
      · have g3 := n3 b o q g
        by_cases b1 : b = p
        · subst b1
          exact e4.w.gp
        · by_cases b2 : b = l
          · subst b2
            exact e4.w.gl
          · exact e4.new b o (k3 b o b1 b2 (ne_of_none q hD) q) g3
    · rintro H3 ⟨G3, xs, ds, w3, s3, gD, hD3, da3, l3, f3, k3, n3⟩
      obtain ⟨w4, s4⟩ := w3.hold nDp nDl gD hD3
      have E2 : Ext p l G2 H2 (upd G3 D (.lst xs)) H3 := ⟨w4, s3.trans s4, fun b o n1 n2 q => k3 b o n1 n2 (ne_of_none q hD) q, fun b o q g => by
        rw [upd_ne (ne_of_none q hD)]
        exact n3 b o q g⟩
      exact k _ _ _ _ (e.trans W E2) (.lst upd_same (da3.mono s4)) ⟨ds, rfl, by rw [l3]; exact hN, f3⟩
/-- tuple(xs), xs a list as told -/
theorem td_tupleN {ta : TE} {ν : Nat → Prop} {φ : PyData → Prop} (ha : TD K p l σ G ta (LsN ν φ)) :
    TD K p l σ G (tCB (fun xs H Q => ∃ p ys, xs = [.ref p] ∧ ((SqL K H p ys ∧ ∀ l, H l = none → Q (.ref l) (upd H l (.tup ys))) ∨ (SqT K H p ys ∧ Q (.ref p) H))) (tCons ta tNil)) (fun d => ∃ ds, d = .tuple ds ∧ ν ds.length ∧ ∀ x ∈ ds, φ x) := fun G1 H Q W s k =>
  ha G1 H _ W s fun v d G2 H2 e da f => by
    obtain ⟨ds, rfl, l1, o1⟩ := f
    cases da with
    | @lst a xs _ t1 a1 =>
      refine ⟨a, xs, rfl, .inl ⟨SqL.of (e.w.same _ _ t1), fun q hq => ?_⟩⟩
      have e4 := e.w.put (o := .tup xs) hq
      exact k _ _ _ _ (e.trans W e4) (.tup (SqT.of upd_same) (a1.mono e4.sub)) ⟨ds, rfl, l1, o1⟩
theorem td_tupO {tr : TA} {k n m k2 N : Nat} (h : TDs K p l σ G tr (All k n m)) (hN : (n + 2) * m + 3 ≤ N := by decide) (hk : k + 1 ≤ k2 := by decide) (hz : m ≤ sizeLine := by decide) : TD K p l σ G (tTup tr) (Okd k2 N) :=
  (td_tup h hz).imp fun d f => (f.okd hN).mono hk (Nat.le_refl _)
theorem td_tup0O {k n : Nat} (hk : 1 ≤ k := by decide) (hn : 3 ≤ n := by decide) : TD K p l σ G (tTup tNil) (Okd k n) := td_tup0.imp fun d (f : Tp 0 0 0 d) => (f.okd (N := 3)).mono hk hn
theorem td_tpO {t : TE} {k n m k2 N : Nat} (h : TD K p l σ G t (Tp k n m)) (hN : (n + 2) * m + 3 ≤ N := by decide) (hk : k + 1 ≤ k2 := by decide) : TD K p l σ G t (Okd k2 N) := h.imp fun d f => (f.okd hN).mono hk (Nat.le_refl _)
end
end L2.Hx

/-! list(zip(xs, ys)), two lists of one length. -/
namespace L2.Zx
open PySem PySem.Spec PyProof.Rows
abbrev ZipF (h : Heap) (z TI TO a : Addr) (f : Bool) : Prop :=
  h.get? z = some { cls := .type "zip", dict := none, data := .fields #[rawInt a, .bool f, .bool false, .ref TI, .ref TO], slots := #[] }
section
variable {prog : Program} {w : World} {A : Around} {E : Value → Shared → Prop} {s : Shared}
theorem owned_out {z TI TO a : Addr} {f : Bool} {oa : Obj} {Q : Bool → Shared → Prop} (hz : ZipF s.heap z TI TO a f) (ha : s.heap.get? a = some oa)
    (hQ : ∀ h₃, ZipF h₃ z TI TO a true → Heap.SameBut z s.heap h₃ → Q false { s with heap := h₃ }) : wpAny (model prog w) A (Builtin.SmallTypes.ownedTupleIsFree (.ref z)) Q E s := by
  unfold Builtin.SmallTypes.ownedTupleIsFree
  refine wpAny_bind (wpAny_field hz rfl (x := rawInt a) rfl ?_)
  show wpAny _ _ (loadIfAlive ((a : Int).toNat) >>= _) _ _ _
  rw [Int.toNat_natCast]
  refine wpAny_bind (PySem.W.kdx_alive ha ?_)
  simp only [Option.isNone_some, Bool.false_eq_true, if_false]
  refine wpAny_bind (wpAny_field hz rfl (x := .bool f) rfl ?_)
  cases f with
  | true =>
    rw [if_neg (show ¬ ((Value.bool true != Value.bool true) = true) from Bool.false_ne_true)]
    exact wpAny_pure (hQ s.heap hz (Heap.SameBut.refl _ _))
  | false =>
    rw [if_pos (show (Value.bool false != Value.bool true) = true from rfl)]
    refine wpAny_bind (wpAny_setField_rec hz (by simp) fun h₃ hz₃ hs₃ => ?_)
    exact wpAny_pure (hQ h₃ hz₃ hs₃)
theorem next_out {z TI TO i1 i2 l1 l2 a : Addr} {f : Bool} {oa : Obj} {k : Nat} {xs ys : Array Value} {x y : Value} {Q : Option Value → Shared → Prop} (D : ZipApart z TI TO i1 i2 l1 l2)
    (hz : ZipF s.heap z TI TO a f) (ha : s.heap.get? a = some oa) (hTI : IsPair s.heap TI (.ref i1) (.ref i2))
    (h1 : s.heap.IsListIter i1 l1 k) (h2 : s.heap.IsListIter i2 l2 k) (hl1 : s.heap.IsList l1 xs) (hl2 : s.heap.IsList l2 ys) (hx : xs[k]? = some x) (hy : ys[k]? = some y)
    (hQ : ∀ h', ZipF h' z TI TO a true → h'.IsListIter i1 l1 (k + 1) → h'.IsListIter i2 l2 (k + 1) → IsPair h' s.heap.objs.size x y → h'.objs.size = s.heap.objs.size + 1 →
      (∀ c o, c ≠ z → c ≠ i1 → c ≠ i2 → s.heap.get? c = some o → h'.get? c = some o) → Q (some (.ref s.heap.objs.size)) { s with heap := h' }) :
    wpAny (model prog w) A (pyNext (.ref z)) Q E s := by
  have hT : s.TypeIs (.ref z) "zip" := ⟨_, hz, rfl⟩
  unfold pyNext
  refine wpAny_bind (wpAny_attempt (wpAny_callSpecial?_slot (name := Str.ofString "__next__") hT F.slot_zip_next
    (wpAny_call_entry F.slot_zip_next hT F.entry_zip_next ?_ (F.args_zip_next_1 _))))
  show wpAny _ _ (field (.ref z) 2 >>= _) _ _ _
  refine wpAny_bind (wpAny_field hz rfl (x := .bool false) rfl ?_)
  show wpAny _ _ (field (.ref z) 3 >>= _) _ _ _
  refine wpAny_bind (wpAny_field hz rfl (x := .ref TI) rfl ?_)
  refine wpAny_bind (wpAny_seqItems hTI rfl ?_)
  show wpAny _ _ (Builtin.SmallTypes.ownedTupleIsFree (.ref z) >>= _) _ _ _
  refine wpAny_bind (owned_out hz ha fun h₃ hz₃ hs₃ => ?_)
  simp only [Bool.false_eq_true, if_false]
  rw [← Array.forIn_toList]
  simp only [List.forIn_cons, List.forIn_nil]
  refine wpAny_bind ?_
  refine wpAny_bind ?_
  refine wpAny_bind (wpAny_holding ?_)
  show wpAny _ _ (Builtin.SmallTypes.nextOf (.ref i1) >>= _) _ _ _
  refine wpAny_bind (wpAny_nextOf_list_item (h1.extBut hs₃.extBut D.i1z) (hl1.extBut hs₃.extBut D.l1z) hx fun h₄ h1₄ hs₄ => wpAny_pure ?_)
  refine wpAny_pure ?_
  dsimp only
  refine wpAny_bind ?_
  refine wpAny_bind (wpAny_holding ?_)
  show wpAny _ _ (Builtin.SmallTypes.nextOf (.ref i2) >>= _) _ _ _
  refine wpAny_bind (wpAny_nextOf_list_item ((h2.extBut hs₃.extBut D.i2z).extBut hs₄.extBut D.i12.symm) ((hl2.extBut hs₃.extBut D.l2z).extBut hs₄.extBut D.l2i1) hy fun h₅ h2₅ hs₅ => wpAny_pure ?_)
  refine wpAny_pure ?_
  dsimp only
  refine wpAny_pure ?_
  dsimp only
  refine wpAny_bind (wpAny_newTuple (hsz := by show 2 ≤ sizeLine; decide) ?_)
  have up : ∀ c o, c ≠ z → c ≠ i1 → c ≠ i2 → s.heap.get? c = some o → h₅.get? c = some o := fun c o c1 c2 c3 e => hs₅.extBut _ _ c3 (hs₄.extBut _ _ c2 (hs₃.extBut _ _ c1 e))
  have hsz : h₅.objs.size = s.heap.objs.size := by rw [hs₅.1, hs₄.1, hs₃.1]
  refine wpAny_pure ⟨_, rfl, wpAny_pure ?_⟩
  show Q (some (.ref h₅.objs.size)) _
  have hz₅ : ZipF h₅ z TI TO a true := hs₅.extBut _ _ D.i2z.symm (hs₄.extBut _ _ D.i1z.symm hz₃)
  have h1₅ : h₅.IsListIter i1 l1 (k + 1) := h1₄.extBut hs₅.extBut D.i12
  have hT₆ : IsPair (h₅.push { cls := .type "tuple", data := .seq #[x, y] }) h₅.objs.size x y := Heap.get?_push_size _ rfl
  rw [hsz] at hT₆ ⊢
  refine hQ _ (Heap.get?_push_of_some _ hz₅) (h1₅.at fun o e => Heap.get?_push_of_some _ e) (h2₅.at fun o e => Heap.get?_push_of_some _ e) hT₆ (by rw [Heap.size_push, hsz]) fun c o c1 c2 c3 e => Heap.get?_push_of_some _ (up c o c1 c2 c3 e)
theorem end_out {z TI TO i1 i2 l1 l2 a : Addr} {f : Bool} {oa : Obj} {k : Nat} {xs : Array Value} {Q : Option Value → Shared → Prop} (hh : A.handled = none) (D : ZipApart z TI TO i1 i2 l1 l2)
    (hz : ZipF s.heap z TI TO a f) (ha : s.heap.get? a = some oa) (hTI : IsPair s.heap TI (.ref i1) (.ref i2))
    (h1 : s.heap.IsListIter i1 l1 k) (hl1 : s.heap.IsList l1 xs) (hx : xs[k]? = none)
    (hQ : ∀ h', (∀ c o, c ≠ z → c ≠ i1 → s.heap.get? c = some o → h'.get? c = some o) → Q none { s with heap := h' }) :
    wpAny (model prog w) A (pyNext (.ref z)) Q E s := by
  have hT : s.TypeIs (.ref z) "zip" := ⟨_, hz, rfl⟩
  unfold pyNext
  refine wpAny_bind (wpAny_attempt (wpAny_callSpecial?_slot (name := Str.ofString "__next__") hT F.slot_zip_next
    (wpAny_call_entry F.slot_zip_next hT F.entry_zip_next ?_ (F.args_zip_next_1 _))))
  show wpAny _ _ (field (.ref z) 2 >>= _) _ _ _
  refine wpAny_bind (wpAny_field hz rfl (x := .bool false) rfl ?_)
  show wpAny _ _ (field (.ref z) 3 >>= _) _ _ _
  refine wpAny_bind (wpAny_field hz rfl (x := .ref TI) rfl ?_)
  refine wpAny_bind (wpAny_seqItems hTI rfl ?_)
  show wpAny _ _ (Builtin.SmallTypes.ownedTupleIsFree (.ref z) >>= _) _ _ _
  refine wpAny_bind (owned_out hz ha fun h₃ hz₃ hs₃ => ?_)
  simp only [Bool.false_eq_true, if_false]
  rw [← Array.forIn_toList]
  simp only [List.forIn_cons, List.forIn_nil]
  refine wpAny_bind ?_
  refine wpAny_bind ?_
  refine wpAny_bind (wpAny_holding ?_)
  show wpAny _ _ (Builtin.SmallTypes.nextOf (.ref i1) >>= _) _ _ _
  refine wpAny_bind (wpAny_nextOf_list_end hh (h1.extBut hs₃.extBut D.i1z) (hl1.extBut hs₃.extBut D.l1z) hx fun h₄ e hs₄ he => ?_)
  obtain ⟨oe, hoe, hce⟩ := he
  refine wpAny_bind (wpAny_isInstance (T := "StopIteration") (b := true) ⟨oe, hoe, hce⟩ isSubtype_stop ?_)
  exact wpAny_pure (hQ _ fun c o c1 c2 e => hs₄ _ _ c2 (hs₃.extBut _ _ c1 e))
/-- the zip at its k-th pair; S is the list that is made, as the tuples handed out -/
structure St (h : Heap) (z TI TO i1 i2 l1 l2 S : Addr) (xs ys : Array Value) (k : Nat) : Prop where
  own : IsZip h z TI TO .none ∨ ∃ a f oa, ZipF h z TI TO a f ∧ h.get? a = some oa ∧ S < a
  ti : IsPair h TI (.ref i1) (.ref i2)
  to : ∃ a b, IsPair h TO a b
  h1 : h.IsListIter i1 l1 k
  h2 : h.IsListIter i2 l2 k
  hl1 : h.IsList l1 xs
  hl2 : h.IsList l2 ys
/-- all of a zip below S -/
structure Low (z TI TO i1 i2 l1 l2 S : Addr) : Prop where
  z : z < S
  ti : TI < S
  to : TO < S
  i1 : i1 < S
  i2 : i2 < S
  l1 : l1 < S
  l2 : l2 < S
theorem St.keep {h h' : Heap} {z TI TO i1 i2 l1 l2 S : Addr} {xs ys : Array Value} {k : Nat} (L : Low z TI TO i1 i2 l1 l2 S) (x : St h z TI TO i1 i2 l1 l2 S xs ys k) (hk : ∀ b o, b ≠ S → h.get? b = some o → h'.get? b = some o) : St h' z TI TO i1 i2 l1 l2 S xs ys k := by
  have n : ∀ {b : Addr}, b < S → b ≠ S := fun h => Nat.ne_of_lt h
  refine ⟨?_, hk _ _ (n L.ti) x.ti, ?_, x.h1.at fun o e => hk _ o (n L.i1) e, x.h2.at fun o e => hk _ o (n L.i2) e, x.hl1.at fun o e => hk _ o (n L.l1) e, x.hl2.at fun o e => hk _ o (n L.l2) e⟩
  · rcases x.own with e | ⟨a, f, oa, e, ea, lt⟩
    · exact .inl (hk _ _ (n L.z) e)
    · exact .inr ⟨a, f, oa, hk _ _ (n L.z) e, hk _ _ (Nat.ne_of_gt lt) ea, lt⟩
  · obtain ⟨a, b, e⟩ := x.to
    exact ⟨a, b, hk _ _ (n L.to) e⟩
theorem item {z TI TO i1 i2 l1 l2 S : Addr} {k : Nat} {xs ys : Array Value} {x y : Value} {Q : Option Value → Shared → Prop} (D : ZipApart z TI TO i1 i2 l1 l2) (L : Low z TI TO i1 i2 l1 l2 S) (hst : St s.heap z TI TO i1 i2 l1 l2 S xs ys k) (hS : S < s.heap.objs.size)
    (hx : xs[k]? = some x) (hy : ys[k]? = some y)
    (hQ : ∀ h', St h' z TI TO i1 i2 l1 l2 S xs ys (k + 1) → IsPair h' s.heap.objs.size x y → (∀ b o, S ≤ b → s.heap.get? b = some o → h'.get? b = some o) → (∀ b o, b ≠ z → b ≠ TO → b ≠ i1 → b ≠ i2 → s.heap.get? b = some o → h'.get? b = some o) → Q (some (.ref s.heap.objs.size)) { s with heap := h' }) :
    wpAny (model prog w) A (pyNext (.ref z)) Q E s := by
  have g : ∀ {b c : Addr}, b < S → S ≤ c → c ≠ b := fun h1 h2 => Nat.ne_of_gt (Nat.lt_of_lt_of_le h1 h2)
  rcases hst.own with e | ⟨a, f, oa, e, ea, lt⟩
  · obtain ⟨a, b, eo⟩ := hst.to
    refine wpAny_pyNext_zip_item D e hst.ti eo hst.h1 hst.h2 hst.hl1 hst.hl2 hx hy fun h' z1 z2 z3 z4 z5 z6 z7 => ?_
    have up : ∀ b o, b ≠ z → b ≠ TO → b ≠ i1 → b ≠ i2 → s.heap.get? b = some o → h'.get? b = some o := fun b o c1 c2 c3 c4 e => z7 b o c1 c2 c3 c4 e
    exact hQ h' ⟨.inr ⟨_, false, _, z1, z5, hS⟩, up _ _ D.TIz D.TITO D.TIi1 D.TIi2 hst.ti, ⟨_, _, z2⟩, z3, z4, hst.hl1.at fun o e => up _ o D.l1z D.l1TO D.l1i1 D.l1i2 e, hst.hl2.at fun o e => up _ o D.l2z D.l2TO D.l2i1 D.l2i2 e⟩ z5 (fun b o lb e => up b o (g L.z lb) (g L.to lb) (g L.i1 lb) (g L.i2 lb) e) up
  · refine next_out D e ea hst.ti hst.h1 hst.h2 hst.hl1 hst.hl2 hx hy fun h' z1 z3 z4 z5 z6 z7 => ?_
    obtain ⟨b1, b2, eo⟩ := hst.to
    have up : ∀ b o, b ≠ z → b ≠ TO → b ≠ i1 → b ≠ i2 → s.heap.get? b = some o → h'.get? b = some o := fun b o c1 _ c3 c4 e => z7 b o c1 c3 c4 e
    exact hQ h' ⟨.inr ⟨_, true, _, z1, z7 _ _ (g L.z (Nat.le_of_lt lt)) (g L.i1 (Nat.le_of_lt lt)) (g L.i2 (Nat.le_of_lt lt)) ea, lt⟩, z7 _ _ D.TIz D.TIi1 D.TIi2 hst.ti, ⟨_, _, z7 _ _ D.TOz D.TOi1 D.TOi2 eo⟩, z3, z4, hst.hl1.at fun o e => z7 _ o D.l1z D.l1i1 D.l1i2 e, hst.hl2.at fun o e => z7 _ o D.l2z D.l2i1 D.l2i2 e⟩ z5 (fun b o lb e => up b o (g L.z lb) (g L.to lb) (g L.i1 lb) (g L.i2 lb) e) up
theorem done {z TI TO i1 i2 l1 l2 S : Addr} {k : Nat} {xs ys : Array Value} {Q : Option Value → Shared → Prop} (hh : A.handled = none) (D : ZipApart z TI TO i1 i2 l1 l2) (hst : St s.heap z TI TO i1 i2 l1 l2 S xs ys k) (hx : xs[k]? = none)
    (hQ : ∀ h', (∀ b o, b ≠ z → b ≠ TO → b ≠ i1 → b ≠ i2 → s.heap.get? b = some o → h'.get? b = some o) → Q none { s with heap := h' }) : wpAny (model prog w) A (pyNext (.ref z)) Q E s := by
  rcases hst.own with e | ⟨a, f, oa, e, ea, lt⟩
  · obtain ⟨a, b, eo⟩ := hst.to
    exact wpAny_pyNext_zip_end hh D e hst.ti eo hst.h1 hst.h2 hst.hl1 hst.hl2 (.inl hx) fun h' k => hQ h' k
  · exact end_out hh D e ea hst.ti hst.h1 hst.hl1 hx fun h' k => hQ h' fun b o c1 _ c3 _ e => k b o c1 c3 e
/-- the tuples made -/
structure Made (xs ys : Array Value) (lo : Addr) (h : Heap) (as : List Addr) : Prop where
  rise : as.Pairwise (· < ·)
  above : ∀ a ∈ as, lo < a
  pairs : ∀ (j : Nat) (a : Addr), as[j]? = some a → ∃ x y, xs[j]? = some x ∧ ys[j]? = some y ∧ IsPair h a x y
theorem Made.there {xs ys : Array Value} {lo : Addr} {h : Heap} {as : List Addr} (g : Made xs ys lo h as) {a : Addr} (ha : a ∈ as) : a < h.objs.size := by
  obtain ⟨j, hj⟩ := List.mem_iff_getElem?.mp ha
  obtain ⟨_, _, _, _, e⟩ := g.pairs j a hj
  exact Heap.lt_size e
theorem loop {R : Result → Shared → Prop} {z TI TO i1 i2 l1 l2 S : Addr} {xs ys : Array Value} {n : Nat} (hh : A.handled = none) (D : ZipApart z TI TO i1 i2 l1 l2) (L : Low z TI TO i1 i2 l1 l2 S) (n1 : xs.size = n) (n2 : ys.size = n) (hn : n ≤ sizeLine) (res : Value) {h₁ : Heap}
    (hR : ∀ h' tk acc c as, (∀ b o, b ≠ S → b ≠ z → b ≠ TO → b ≠ i1 → b ≠ i2 → h₁.get? b = some o → h'.get? b = some o) → h'.get? S = some { cls := .type "list", dict := none, data := .seq acc c, slots := #[] } → as.length = n → Made xs ys S h' as →
      acc.toList = as.map Value.ref → R (.ok (.ret res)) { s with heap := h', toks := tk }) :
    ∀ (k i : Nat) (h : Heap) (tk c : Nat) (acc : Array Value) (as : List Addr), n - i = k → i ≤ n → St h z TI TO i1 i2 l1 l2 S xs ys i → (∀ b o, b ≠ S → b ≠ z → b ≠ TO → b ≠ i1 → b ≠ i2 → h₁.get? b = some o → h.get? b = some o) →
      h.get? S = some { cls := .type "list", dict := none, data := .seq acc c, slots := #[] } → acc.toList = as.map Value.ref → as.length = i → Made xs ys S h as →
      codeAny (model prog w) A (.builtin "list.extend.loop" ⟨[.ref S, .ref z, res], []⟩) R { s with heap := h, toks := tk } := by
  have nz : S ≠ z := Nat.ne_of_gt L.z
  have nto : S ≠ TO := Nat.ne_of_gt L.to
  have ni1 : S ≠ i1 := Nat.ne_of_gt L.i1
  have ni2 : S ≠ i2 := Nat.ne_of_gt L.i2
  intro k
  induction k with
  | zero =>
    intro i h tk c acc as hk hi hst hkeep hS hacc hal hG
    have hin : i = n := by omega
    refine codeAny_builtin PySem.F.entry_extend_loop ?_
    rw [Around.under_plainId PySem.F.plain_extend_loop _]
    show wpAny _ A.in1 (pyNext (.ref z) >>= _) _ _ _
    refine wpAny_bind (done (s := { s with heap := h, toks := tk }) (A := A.in1) hh D hst (Array.getElem?_eq_none (by omega)) fun h' he => ?_)
    refine wpAny_pure (hR h' tk acc c as (fun b o h0 h1 h2 h3 h4 e => he b o h1 h2 h3 h4 (hkeep b o h0 h1 h2 h3 h4 e)) (he S _ nz nto ni1 ni2 hS) (by omega) ⟨hG.rise, hG.above, fun j a hj => ?_⟩ hacc)
    obtain ⟨x, y, e1, e2, e3⟩ := hG.pairs j a hj
    have la := hG.above a (List.mem_of_getElem? hj)
    have g : ∀ {b : Addr}, b < S → a ≠ b := fun h => Nat.ne_of_gt (Nat.lt_trans h la)
    exact ⟨x, y, e1, e2, he a _ (g L.z) (g L.to) (g L.i1) (g L.i2) e3⟩
  | succ k ih =>
    intro i h tk c acc as hk hi hst hkeep hS hacc hal hG
    have hlt : i < n := by omega
    obtain ⟨x, hx⟩ : ∃ p, xs[i]? = some p := ⟨xs[i], Array.getElem?_eq_getElem (by omega)⟩
    obtain ⟨y, hy⟩ : ∃ p, ys[i]? = some p := ⟨ys[i], Array.getElem?_eq_getElem (by omega)⟩
    have hsz : acc.size = i := by rw [← Array.length_toList, hacc, List.length_map, hal]
    have hSl : S < h.objs.size := Heap.lt_size hS
    refine codeAny_builtin PySem.F.entry_extend_loop ?_
    rw [Around.under_plainId PySem.F.plain_extend_loop _]
    show wpAny _ A.in1 (pyNext (.ref z) >>= _) _ _ _
    refine wpAny_bind (item (s := { s with heap := h, toks := tk }) (S := S) D L hst hSl hx hy fun h' hst' ht hge hkp => ?_)
    dsimp only at ht hge hkp ⊢
    have hS' := hge S _ (Nat.le_refl _) hS
    have up : ∀ b o, b ≠ S → h'.get? b = some o → (h'.update S (Obj.mapSeq (·.push (Value.ref h.objs.size)))).get? b = some o := fun b o hb e => (Heap.get?_update_other _ _ (Ne.symm hb)).trans e
    show wpAny _ A.in1 (updateSeq S (·.push (Value.ref h.objs.size)) >>= _) _ _ _
    refine wpAny_bind ?_
    refine wpAny_updateSeq hS' rfl (wpAny_pure ⟨plainId_quiet PySem.F.plain_extend_loop _, ih (i + 1) _ tk _ (acc.push (Value.ref h.objs.size)) (as ++ [h.objs.size]) (by omega) hlt (hst'.keep L up)
      (fun b o h0 h1 h2 h3 h4 e => up b o h0 (hkp b o h1 h2 h3 h4 (hkeep b o h0 h1 h2 h3 h4 e))) (Heap.get?_update_self _ hS' rfl) (by rw [Array.toList_push, hacc, List.map_append]; rfl) (by rw [List.length_append, hal]; rfl) ⟨?_, ?_, ?_⟩⟩) (by rw [hsz]; omega) (by show (acc.push (Value.ref h.objs.size)).size ≤ sizeLine + 1; rw [Array.size_push, hsz]; omega)
    · refine List.pairwise_append.mpr ⟨hG.rise, List.pairwise_singleton _ _, fun a ha b hb => ?_⟩
      rw [List.mem_singleton.mp hb]
      exact hG.there ha
    · intro a ha
      rcases List.mem_append.mp ha with ha | ha
      · exact hG.above a ha
      · rw [List.mem_singleton.mp ha]
        exact hSl
    · intro j b hj
      rcases Nat.lt_trichotomy j as.length with h1 | h1 | h1
      · rw [List.getElem?_append_left h1] at hj
        obtain ⟨x', y', e1, e2, e3⟩ := hG.pairs j b hj
        have hb := hG.above b (List.mem_of_getElem? hj)
        exact ⟨x', y', e1, e2, up b _ (Nat.ne_of_gt hb) (hge b _ (Nat.le_of_lt hb) e3)⟩
      · subst h1
        have hb : h.objs.size = b := by simpa using hj
        subst hb
        exact ⟨x, y, by rw [hal]; exact hx, by rw [hal]; exact hy, up _ _ (Nat.ne_of_gt hSl) ht⟩
      · have hnone : (as ++ [h.objs.size])[j]? = none := List.getElem?_eq_none (by rw [List.length_append, List.length_singleton]; omega)
        rw [hnone] at hj
        cases hj
end
theorem zip_no_len : typeLookup (.type "zip") "__len__" = pure none := by rw [typeLookup_type, builtinLookup_eq_fast]; kernel_rfl
theorem zip_no_hint : typeLookup (.type "zip") "__length_hint__" = pure none := by rw [typeLookup_type, builtinLookup_eq_fast]; kernel_rfl
section
variable {prog : Program} {w : World} {A : Around} {E : Value → Shared → Prop} {s : Shared} {z TI TO i1 i2 l1 l2 : Addr} {xs ys : Array Value} {n : Nat}
theorem extend {R : Result → Shared → Prop} {S : Addr} (hh : A.handled = none) (D : ZipApart z TI TO i1 i2 l1 l2) (L : Low z TI TO i1 i2 l1 l2 S) (n1 : xs.size = n) (n2 : ys.size = n) (hn : n ≤ sizeLine) (hst : St s.heap z TI TO i1 i2 l1 l2 S xs ys 0) (hz : IsZip s.heap z TI TO .none)
    (res : Value) (c₀ : Nat) (hS : s.heap.get? S = some { cls := .type "list", data := .seq #[] c₀ })
    (hR : ∀ h' tk acc c as, (∀ b o, b ≠ S → b ≠ z → b ≠ TO → b ≠ i1 → b ≠ i2 → s.heap.get? b = some o → h'.get? b = some o) → h'.get? S = some { cls := .type "list", dict := none, data := .seq acc c, slots := #[] } → as.length = n → Made xs ys S h' as →
      acc.toList = as.map Value.ref → R (.ok (.ret res)) { s with heap := h', toks := tk }) :
    wpAny (model prog w) A.in1 (Builtin.List.listExtendWith (.ref S) (.ref z) res)
      (fun fin s' => match fin with | .done f => R (.ok f) s' | .again c' => c'.quiet = true ∧ codeAny (model prog w) A c' R s') (fun e s' => R (.error e) s') s := by
  have hT : s.TypeIs (.ref z) "zip" := ⟨_, hz, rfl⟩
  have nz : S ≠ z := Nat.ne_of_gt L.z
  have key : ∀ (h : Heap) (c₁ : Nat), (∀ b o, b ≠ S → s.heap.get? b = some o → h.get? b = some o) → h.get? S = some { cls := .type "list", data := .seq #[] c₁ } →
      codeAny (model prog w) A (.builtin "list.extend.loop" ⟨[.ref S, .ref z, res], []⟩) R { s with heap := h, toks := s.toks } := by
    intro h c₁ hk hS₁
    exact loop (s := s) (h₁ := s.heap) hh D L n1 n2 hn res hR n 0 h s.toks c₁ #[] [] (Nat.sub_zero _) (Nat.zero_le _) (hst.keep L hk) (fun b o h0 _ _ _ _ e => hk b o h0 e) hS₁ rfl rfl
      ⟨List.Pairwise.nil, (fun _ ha => nomatch ha), (fun j a hj => by simp at hj)⟩
  unfold Builtin.List.listExtendWith
  refine wpAny_bind (wpAny_typeOf (T := "zip") hT ?_)
  have h1 : Builtin.List.listSameRef (.ref S) (.ref z) = false := by simp [Builtin.List.listSameRef, nz]
  have h2 : (Value.type "zip" == Value.type "list") = false := by decide
  have h3 : (Value.type "zip" == Value.type "tuple") = false := by decide
  simp only [h1, h2, h3, Bool.or_false, Bool.false_eq_true, if_false]
  refine wpAny_bind (wpAny_pyIter_zip hz ?_)
  refine wpAny_bind (wpAny_holding ?_)
  unfold Builtin.List.listLengthHint
  refine wpAny_bind (wpAny_specialOf hT zip_no_len ?_)
  show wpAny _ A.in1 (specialOf (Value.ref z) (Str.ofString "__length_hint__") >>= _) _ _ _
  refine wpAny_bind (wpAny_specialOf hT zip_no_hint ?_)
  refine wpAny_pure ?_
  refine wpAny_ite_split (fun _ => ?_) (fun _ => wpAny_pure ⟨plainId_quiet PySem.F.plain_extend_loop _, key _ c₀ (fun b o _ e => e) hS⟩)
  refine wpAny_bind (wpAny_rule ?_)
  refine wpAny_bind ?_
  show wpAny _ _ (updateSeq S (·.push .none) >>= fun _ => updateSeq S (·.pop)) _ _ _
  refine wpAny_bind (wpAny_updateSeq hS rfl ?_)
  have hS₂ := Heap.get?_update_self (Obj.mapSeq (·.push Value.none)) hS rfl
  refine wpAny_updateSeq (hz := by seq_fits) hS₂ rfl ?_
  have hS₃ := Heap.get?_update_self (Obj.mapSeq (·.pop)) hS₂ rfl
  refine wpAny_pure ⟨plainId_quiet PySem.F.plain_extend_loop _, key _ _ (fun b o hb e => ?_) hS₃⟩
  exact (Heap.get?_update_other _ _ (Ne.symm hb)).trans ((Heap.get?_update_other _ _ (Ne.symm hb)).trans e)
theorem init {R : Result → Shared → Prop} {S : Addr} (hh : A.handled = none) (D : ZipApart z TI TO i1 i2 l1 l2) (L : Low z TI TO i1 i2 l1 l2 S) (n1 : xs.size = n) (n2 : ys.size = n) (hn : n ≤ sizeLine) (hst : St s.heap z TI TO i1 i2 l1 l2 S xs ys 0) (hz : IsZip s.heap z TI TO .none)
    (hS : s.heap.get? S = some { cls := .type "list", data := .seq #[] })
    (hR : ∀ h' tk acc c as, (∀ b o, b ≠ S → b ≠ z → b ≠ TO → b ≠ i1 → b ≠ i2 → s.heap.get? b = some o → h'.get? b = some o) → h'.get? S = some { cls := .type "list", dict := none, data := .seq acc c, slots := #[] } → as.length = n → Made xs ys S h' as →
      acc.toList = as.map Value.ref → R (.ok (.ret .none)) { s with heap := h', toks := tk }) :
    wpAny (model prog w) A.in1 (Builtin.«list.__init__» ⟨[.ref S, .ref z], []⟩)
      (fun fin s' => match fin with | .done f => R (.ok f) s' | .again c' => c'.quiet = true ∧ codeAny (model prog w) A c' R s') (fun e s' => R (.error e) s') s := by
  show wpAny _ _ (do let old ← Builtin.List.listItems (.ref S); Builtin.List.listUpdate (.ref S) (fun _ => #[]); letGo old.toList.reverse; Builtin.List.listExtendWith (.ref S) (.ref z) .none) _ _ s
  refine wpAny_bind ?_
  unfold Builtin.List.listItems
  refine wpAny_bind (wpAny_seqItems hS rfl (wpAny_pure ?_))
  show wpAny _ _ (updateSeq S (fun _ => #[]) >>= fun _ => letGo (#[] : Array Value).toList.reverse >>= fun _ => Builtin.List.listExtendWith (.ref S) (.ref z) .none) _ _ s
  refine wpAny_bind (wpAny_updateSeq hS rfl ?_)
  have hS₂ := Heap.get?_update_self (Obj.mapSeq (fun _ => (#[] : Array Value))) hS rfl
  have oth : ∀ b o, b ≠ S → s.heap.get? b = some o → (s.heap.update S (Obj.mapSeq (fun _ => (#[] : Array Value)))).get? b = some o :=
    fun b o hb e => (Heap.get?_update_other _ _ (Ne.symm hb)).trans e
  refine wpAny_bind (wpAny_letGo ?_)
  refine extend hh D L n1 n2 hn (hst.keep L oth) (oth _ _ (Nat.ne_of_lt L.z) hz) .none _ hS₂ fun h' tk acc c as hk hS' hl hG hacc => ?_
  exact hR h' tk acc c as (fun b o h0 h1 h2 h3 h4 e => hk b o h0 h1 h2 h3 h4 (oth b o h0 e)) hS' hl hG hacc
theorem call_list {Q : Value → Shared → Prop} (hh : A.handled = none) (D : ZipApart z TI TO i1 i2 l1 l2) (L : Low z TI TO i1 i2 l1 l2 s.heap.objs.size) (n1 : xs.size = n) (n2 : ys.size = n) (hn : n ≤ sizeLine) (hst : St s.heap z TI TO i1 i2 l1 l2 s.heap.objs.size xs ys 0) (hz : IsZip s.heap z TI TO .none)
    (hQ : ∀ h' tk acc c as, (∀ b o, b ≠ z → b ≠ TO → b ≠ i1 → b ≠ i2 → s.heap.get? b = some o → h'.get? b = some o) → h'.get? s.heap.objs.size = some { cls := .type "list", dict := none, data := .seq acc c, slots := #[] } → as.length = n → Made xs ys s.heap.objs.size h' as →
      acc.toList = as.map Value.ref → Q (.ref s.heap.objs.size) { s with heap := h', toks := tk }) :
    wpAny (model prog w) A (call (.type "list") [.ref z]) Q E s := by
  refine callType_codes (Q₁ := fun obj s₁ => obj = .ref s.heap.objs.size ∧ s₁ = { s with heap := s.heap.push { cls := .type "list", data := .seq #[] } }) PySem.F.called_list (PySem.F.typeCall_list_1 _) PySem.F.entry_list_init
    (code_list_new _ ⟨rfl, rfl⟩) fun obj s₁ h₁ => ?_
  obtain ⟨rfl, rfl⟩ := h₁
  have hS : (s.heap.push { cls := .type "list", data := .seq #[] }).get? s.heap.objs.size = some { cls := .type "list", data := .seq #[] } := Heap.get?_push_size _ rfl
  refine ⟨⟨_, hS, rfl⟩, PySem.F.args_list_init_2 _ _, init (A := A.in1) hh D L n1 n2 hn (hst.keep L fun b o _ e => Heap.get?_push_of_some _ e) (Heap.get?_push_of_some _ hz) hS (fun h' tk acc c as hk hS' hl hG hacc => ?_)⟩
  exact ⟨rfl, hQ h' tk acc c as (fun b o h1 h2 h3 h4 e => hk b o (Nat.ne_of_lt (Heap.lt_size e)) h1 h2 h3 h4 (Heap.get?_push_of_some _ e)) hS' hl hG hacc⟩
end
/-- the tuples tracked at their addresses -/
def putT : Hp → List Addr → List (V × V) → Hp
  | H, a :: as, p :: kvs => putT (upd H a (.tup [p.1, p.2])) as kvs
  | H, _, _ => H
theorem putT_off {b : Addr} : ∀ (as : List Addr) (kvs : List (V × V)) (H : Hp), b ∉ as → putT H as kvs b = H b
  | [], _, _, _ => rfl
  | _ :: _, [], _, _ => rfl
  | a :: as, p :: kvs, H, h => by
    show putT (upd H a (.tup [p.1, p.2])) as kvs b = H b
    rw [putT_off as kvs _ (fun z => h (List.mem_cons_of_mem _ z)), upd_ne (fun z => h (by rw [z]; exact List.mem_cons_self))]
theorem putT_at : ∀ (as : List Addr) (kvs : List (V × V)) (H : Hp), as.length = kvs.length → as.Nodup → Paired (fun (t : Addr) (p : V × V) => putT H as kvs t = some (.tup [p.1, p.2])) as kvs
  | [], [], _, _, _ => .nil
  | [], _ :: _, _, h, _ => by cases h
  | _ :: _, [], _, h, _ => by cases h
  | a :: as, p :: kvs, H, h, hn => by
    have hn' := List.nodup_cons.mp hn
    have ih := putT_at as kvs (upd H a (.tup [p.1, p.2])) (Nat.succ.inj h) hn'.2
    refine .cons ?_ ih
    show putT (upd H a (.tup [p.1, p.2])) as kvs a = some (.tup [p.1, p.2])
    rw [putT_off as kvs _ hn'.1, upd_same]
theorem laid {X : Cx} {pins : List (Addr × Obj)} {σ : L2.St} {H : Hp} {s : Shared} {h' : Heap} {tk : Nat} {vs us : List V} {xs ys : List Value} {acc : Array Value} {c : Nat} {as : List Addr} {S : Addr} (I : Inv X pins σ H s) (lS : s.heap.objs.size ≤ S) (hz : vs.length ≤ sizeLine) (le : vs.length = us.length) (rv : Vals vs xs) (ru : Vals us ys)
    (hk : ∀ b o, s.heap.get? b = some o → h'.get? b = some o) (hS : h'.get? S = some { cls := .type "list", dict := none, data := .seq acc c, slots := #[] }) (hl : as.length = vs.length) (hG : Made xs.toArray ys.toArray S h' as) (hacc : acc.toList = as.map Value.ref) :
    ∃ H' : Hp, (∀ b o, H b = some o → H' b = some o) ∧ H S = none ∧ (∀ t ∈ as, H t = none) ∧ S ∉ as ∧ H' S = some (.lst (as.map V.ref)) ∧ Paired (fun (t : Addr) (q : V × V) => H' t = some (.tup [q.1, q.2])) as (vs.zip us) ∧ Inv X pins σ H' { s with heap := h', toks := tk } := by
  have hSn : S ∉ as := fun z => Nat.lt_irrefl _ (hG.above _ z)
  have nd : as.Nodup := List.Pairwise.imp (fun {a b} (h : a < b) => Nat.ne_of_lt h) hG.rise
  have new : ∀ t ∈ as, H t = none := fun t ht => I.hok.fresh (Nat.le_trans lS (Nat.le_of_lt (hG.above t ht)))
  have newS : H S = none := I.hok.fresh lS
  have atP := putT_at as (vs.zip us) (upd H S (.lst (as.map V.ref))) (by rw [List.length_zip]; omega) nd
  have off : ∀ b, b ∉ as → b ≠ S → putT (upd H S (.lst (as.map V.ref))) as (vs.zip us) b = H b := fun b h1 h2 => by rw [putT_off as (vs.zip us) _ h1, upd_ne h2]
  have low : ∀ b o, s.heap.get? b = some o → b ∉ as ∧ b ≠ S := fun b o e => ⟨fun z => absurd (Nat.lt_of_lt_of_le (Heap.lt_size e) lS) (Nat.not_lt.mpr (Nat.le_of_lt (hG.above b z))), Nat.ne_of_lt (Nat.lt_of_lt_of_le (Heap.lt_size e) lS)⟩
  have kp : ∀ b u, H b = some u → (putT (upd H S (.lst (as.map V.ref))) as (vs.zip us)) b = some u := fun b u e => by
    rw [off b (fun z => by rw [new b z] at e; cases e) (fun z => by rw [z, newS] at e; cases e)]
    exact e
  have eS : putT (upd H S (.lst (as.map V.ref))) as (vs.zip us) S = some (.lst (as.map V.ref)) := by rw [putT_off as (vs.zip us) _ hSn, upd_same]
  refine ⟨putT (upd H S (.lst (as.map V.ref))) as (vs.zip us), kp, newS, new, hSn, eS, atP, ?_⟩
  refine I.call' (ch := []) rfl ⟨fun b o q _ _ _ => hk b o q, fun b o q _ _ _ => ⟨o.slots, hk b o q⟩, fun b o q n _ => ?_, fun b o q _ => ⟨o, hk b o q⟩, fun b xs q => kp b _ q, fun b o u q => kp b _ q, fun b ps q => ⟨#[], by rw [kp b _ q]; simp⟩⟩ (fun b u q => ?_) I.bare fun b z => by simp at z
  · obtain ⟨z1, z2⟩ := low b o q
    rw [off b z1 z2]
    exact n
  · by_cases hb : b ∈ as
    · obtain ⟨j, pk, e1, e2, e3⟩ := LiI.paired_ix atP hb
      rw [e3] at q
      cases q
      obtain ⟨x, y, f1, f2, f3⟩ := hG.pairs j b e1
      obtain ⟨g1, g2⟩ := List.getElem?_zip_eq_some.mp e2
      obtain ⟨x', m1, m2⟩ := rv.get g1
      obtain ⟨y', m3, m4⟩ := ru.get g2
      have ex : x' = x := by
        rw [List.getElem?_toArray, m1] at f1
        exact Option.some.inj f1
      have ey : y' = y := by
        rw [List.getElem?_toArray, m3] at f2
        exact Option.some.inj f2
      subst ex ey
      exact ⟨by show 2 ≤ sizeLine; decide, [x', y'], .cons m2 (.cons m4 .nil), ⟨_, f3, rfl, _, rfl⟩⟩
    · by_cases hb2 : b = S
      · rw [hb2] at q ⊢
        rw [eS] at q
        cases q
        refine ⟨by rw [List.length_map]; omega, acc.toList, c, by rw [hacc]; exact LiI.vals_refs as, ?_⟩
        rw [Array.toArray_toList]
        exact hS
      · rw [off b hb hb2] at q
        exact (I.hok b u q).stay (fun d v _ y => hk d v y) (fun d y => kp d _ y) fun d xs y => kp d _ y
def rListZip (K : PySem.W.Frag) : List V → Hp → VK → Prop := fun zs H Q => ∃ (a b : Addr) (vs us : List V), zs = [.ref a, .ref b] ∧ SqL K H a vs ∧ SqL K H b us ∧ vs.length = us.length ∧
  ∀ (H' : Hp) (p : Addr) (ts : List Addr), (∀ b o, H b = some o → H' b = some o) → H p = none → (∀ t ∈ ts, H t = none) → p ∉ ts → H' p = some (.lst (ts.map V.ref)) → Paired (fun (t : Addr) (q : V × V) => H' t = some (.tup [q.1, q.2])) ts (vs.zip us) → Q (.ref p) H'
def tListZip (K : PySem.W.Frag) (ta : TA) : TE := fun σ H Q => ta σ H fun zs H1 => rListZip K zs H1 Q
/-- list(zip(xs, ys)) -/
theorem pe_listZip {X : Cx} {e e2 : Expr} {ta : TA} {p pz pz2 pos : Pos} (hc : X.calm = true) (hg : Gl X "list") (hm : X.mg "list" = none) (hgz : Gl X "zip") (hmz : X.mg "zip" = none) (ha : PA X [e, e2] ta) (hv : bootBuiltins "list" = some (.type "list") := by rfl)
    (hs : starEach [e, e2] X.env = (false, eval e X.env) :: starEach [e2] X.env := by rfl) (hpl : (backTo pz2 (starEach [e2] X.env)).any (·.1) = false := by rfl)
    (hs1 : starEach [.Call (.Name "zip" pz) [e, e2] [] pz2] X.env = (false, eval (.Call (.Name "zip" pz) [e, e2] [] pz2) X.env) :: starEach [] X.env := by rfl) :
    PE X (.Call (.Name "list" p) [.Call (.Name "zip" pz) [e, e2] [] pz2] [] pos) (tListZip X.K ta) := by
  refine ⟨fun pins s σ H Q I hq => ?_⟩
  refine wpAny_Call_Name_kw (ld_blt I hg hm hv ?_)
  refine PyProof.Rows.callWith_type1 ?_ hs1 rfl
  rw [hs1]
  show wpAny _ _ (spliced ((false, eval (.Call (.Name "zip" pz) [e, e2] [] pz2) X.env) :: backTo pos (starEach [] X.env))) _ _ s
  refine Calls.spliced_cons ?_
  refine Call_ (ld_blt I hgz hmz PyProof.Rows.boot_zip (PyProof.Rows.callWith_type1 (thn (ha.run pz2 pins s σ H _ I hq) fun us s1 ⟨vs, H1, I1, r1, q1⟩ => ?_) hs hpl))
  obtain ⟨a, b, xs, ys, ex, hqx, hqy, hlen, q⟩ := q1
  subst ex
  cases r1 with
  | cons r rr =>
    cases rr with
    | cons r' rr =>
      cases rr
      cases r
      cases r'
      obtain ⟨its, rv, p1, z1⟩ := I1.list hqx
      obtain ⟨its2, rv2, p2, _⟩ := I1.list hqy
      have la : a < s1.heap.objs.size := p1.lt
      have lb : b < s1.heap.objs.size := p2.lt
      have n1 := rv.length
      have n2 := rv2.length
      refine call_zip_2 p1.isList p2.isList fun h' hz hTI hTO h1 h2 hsz hk => ?_
      refine Calls.spliced_nil ?_
      have L : Low (s1.heap.objs.size + 4) (s1.heap.objs.size + 2) (s1.heap.objs.size + 3) s1.heap.objs.size (s1.heap.objs.size + 1) a b h'.objs.size := by
        rw [hsz]
        exact ⟨Nat.add_lt_add_left (by decide) _, Nat.add_lt_add_left (by decide) _, Nat.add_lt_add_left (by decide) _, Nat.lt_add_of_pos_right (by decide), Nat.add_lt_add_left (by decide) _, Nat.lt_of_lt_of_le la (Nat.le_add_right _ _), Nat.lt_of_lt_of_le lb (Nat.le_add_right _ _)⟩
      refine call_list (s := { s1 with heap := h' }) (n := xs.length) (xs := its.toArray) (ys := its2.toArray) (I1.ok.hd hc) (PySem.W.ktu_apart s1.heap.objs.size a b la lb) L (by rw [List.size_toArray]; omega) (by rw [List.size_toArray]; omega) z1
        ⟨.inl hz, hTI, ⟨_, _, hTO⟩, h1, h2, p1.isList.at fun o e => hk _ o e, p2.isList.at fun o e => hk _ o e⟩ hz fun h2' tk acc c as hk2 hS hl hG hacc => ?_
      have old : ∀ c o, s1.heap.get? c = some o → h2'.get? c = some o := fun c o e => by
        have lc := Heap.lt_size e
        exact hk2 c o (Nat.ne_of_lt (Nat.lt_of_lt_of_le lc (Nat.le_add_right _ _))) (Nat.ne_of_lt (Nat.lt_of_lt_of_le lc (Nat.le_add_right _ _))) (Nat.ne_of_lt lc) (Nat.ne_of_lt (Nat.lt_of_lt_of_le lc (Nat.le_add_right _ _))) (hk c o e)
      obtain ⟨H', k1, k2, k3, k4, k5, k6, J⟩ := laid (tk := tk) I1 (by show s1.heap.objs.size ≤ h'.objs.size; rw [hsz]; exact Nat.le_add_right _ _) z1 hlen rv rv2 old hS hl hG hacc
      exact ⟨.ref _, H', J, rfl, q H' _ as k1 k2 k3 k4 k5 k6⟩
end L2.Zx

/-! Tuples that are known to be of the plain kind, and dict(t) of a tuple of pairs. -/
namespace L2.Hx
open PySem PySem.Spec PyProof.Rows
def PlO (o : Obj) : Prop := o.cls = .type "tuple" ∧ o.dict = none
def PlT (H : Hp) (a : Addr) (xs : List V) : Prop := ∃ o, PlO o ∧ H a = some (.frz o (.tup xs))
theorem PlT.sqT {K : PySem.W.Frag} {H : Hp} {a : Addr} {xs : List V} (h : PlT H a xs) : SqT K H a xs := by
  obtain ⟨o, _, e⟩ := h
  exact .inl (.inr ⟨o, e⟩)
theorem PlT.same {G H : Hp} {a : Addr} {xs : List V} (s : Same G H) (h : PlT G a xs) : PlT H a xs := by
  obtain ⟨o, p, e⟩ := h
  exact ⟨o, p, s _ _ e⟩
def tTupP (t : TA) : TE := fun σ H Q => t σ H fun xs H1 => xs.length ≤ sizeLine ∧ ∀ p o, PlO o → H1 p = none → Q (.ref p) (upd H1 p (.frz o (.tup xs)))
section
variable {X : Cx}
theorem pe_tupP {es : List Expr} {pos : Pos} {t : TA} {x1} (h : PA X es t) : PE X (.Tuple es x1 pos) (tTupP t) := by
  refine ⟨fun pins s σ H Q I hq => ?_⟩
  refine wpAny_Tuple_spliced (thn (h.run pos pins s σ H _ I hq) fun us s1 ⟨xs, H1, I1, r, z, q⟩ => ⟨by rw [← r.length]; exact z, ?_⟩)
  have hf : H1 s1.heap.objs.size = none := I1.hok.fresh (Nat.le_refl _)
  refine ⟨.ref s1.heap.objs.size, _, I1.laid (t' := s1.toks) (o := .frz { cls := .type "tuple", data := .seq us.toArray } (.tup xs)) (fun b u e => Heap.get?_push_of_some _ e) (Nat.le_refl _) ?_, rfl, q _ _ ⟨rfl, rfl⟩ hf⟩
  exact ⟨Heap.get?_push_size _ rfl, z, us, r, ⟨_, Heap.get?_push_size _ rfl, rfl, _, rfl⟩⟩
theorem call_tuple_ofP : CallR X (.type "tuple") (fun xs H Q => ∃ p ys, xs = [.ref p] ∧ SqL X.K H p ys ∧ ∀ l o, PlO o → H l = none → Q (.ref l) (upd H l (.frz o (.tup ys)))) := by
  intro pins s σ H xs us Q I r h
  obtain ⟨p, ys, rfl, hq, q⟩ := h
  obtain ⟨u, rfl, rx⟩ := vals1 r
  cases rx
  obtain ⟨its, r', pl, hz⟩ := I.list hq
  have hlen := r'.length
  refine call_tuple_list pl.isList (fun h' kp => ?_) (by simp only [List.size_toArray] <;> omega)
  have I1 : Inv X pins σ H { s with heap := h' } := I.kept (t' := s.toks) kp
  have I2 : Inv X pins σ (upd H h'.objs.size (.frz { cls := .type "tuple", data := .seq its.toArray } (.tup ys))) { s with heap := h'.push { cls := .type "tuple", data := .seq its.toArray } } :=
    I1.laid (t' := s.toks) (fun b o e => Heap.get?_push_of_some _ e) (Nat.le_refl _) (show ObjOk X.prog X.w _ _ _ (.frz _ (.tup ys)) from ⟨Heap.get?_push_size _ rfl, hz, its, r', IsTup.new _ _⟩)
  exact ⟨.ref h'.objs.size, _, I2, rfl, q _ _ ⟨rfl, rfl⟩ (I1.hok.fresh (Nat.le_refl _))⟩
/-- t + u, none of both empty -/
def rCatP (K : PySem.W.Frag) : R2 := fun x y H Q => ∃ a b xs ys, x = .ref a ∧ y = .ref b ∧ SqT K H a xs ∧ SqT K H b ys ∧ xs ≠ [] ∧ ys ≠ [] ∧ xs.length + ys.length ≤ sizeLine ∧ ∀ p o, PlO o → H p = none → Q (.ref p) (upd H p (.frz o (.tup (xs ++ ys))))
theorem op_catP : OpR X (binaryOp .Add) (rCatP X.K) := by
  intro pins s σ H x y v u Q I rx ry h
  obtain ⟨a, b, xs, ys, rfl, rfl, ha, hb, hx, hy, hz, q⟩ := h
  cases rx
  cases ry
  obtain ⟨its, r1, p1, _⟩ := I.tuple ha
  obtain ⟨its2, r2, p2, _⟩ := I.tuple hb
  refine HT.cat_tup p1 p2 (fun z => hx (r1.nil_iff.mp z)) (fun z => absurd (r2.nil_iff.mp z) hy) (fun z => ?_) (by rw [← r1.length, ← r2.length]; exact hz)
  refine ⟨.ref s.heap.objs.size, _, I.laid (t' := s.toks) (o := .frz { cls := .type "tuple", data := .seq (its ++ its2).toArray } (.tup (xs ++ ys))) (fun b ob q => Heap.get?_push_of_some _ q) (Nat.le_refl _) ?_, rfl, q _ _ ⟨rfl, rfl⟩ (I.hok.fresh (Nat.le_refl _))⟩
  exact ⟨Heap.get?_push_size _ rfl, by rw [List.length_append]; exact hz, _, r1.append r2, IsTup.new _ _⟩
theorem pairs_v {pins : List (Addr × Obj)} {σ : L2.St} {H : Hp} {s : Shared} (I : Inv X pins σ H s) : ∀ {ps : List Addr} {kvs : List (Key × V)}, Paired (fun p kv => SqT X.K H p [kV kv.1, kv.2]) ps kvs →
    ∃ (prs : List (Key × Value)) (vvs : List (Value × Value)), KV kvs prs ∧ prs.length = ps.length ∧ vvs.length = ps.length ∧ ∀ (j : Nat) (k v : Value), vvs[j]? = some (k, v) → ∃ (b : Addr) (key : Key), ps[j]? = some b ∧ IsTup s.heap b #[k, v] ∧ prs[j]? = some (key, v) ∧ keyIs key k = true
  | _, _, .nil => ⟨[], [], .nil, rfl, rfl, fun j k v e => by simp at e⟩
  | _, _, .cons (a := p) (b := kv) h t => by
    obtain ⟨prs, vvs, r, hl, hl2, hp⟩ := pairs_v I t
    obtain ⟨its, rv, ht, _⟩ := I.tuple h
    obtain ⟨u, y, ei, ru, ry⟩ := vals2 rv
    subst ei
    refine ⟨(kv.1, y) :: prs, (u, y) :: vvs, .cons ⟨rfl, ry⟩ r, by rw [List.length_cons, List.length_cons, hl], by rw [List.length_cons, List.length_cons, hl2], fun j k v e => ?_⟩
    cases j with
    | zero =>
      have e' : (u, y) = (k, v) := Option.some.inj e
      cases e'
      exact ⟨p, kv.1, rfl, ht, rfl, kV_is (P := X.prog) (w := X.w) ru⟩
    | succ j =>
      obtain ⟨b, key, e1, e2, e3, e4⟩ := hp j k v (by simpa using e)
      exact ⟨b, key, by simpa using e1, e2, by simpa using e3, e4⟩
/-- dict(t), t a plain tuple of pairs -/
def rDictT (K : PySem.W.Frag) : List V → Hp → VK → Prop := fun xs H Q => ∃ (a : Addr) (ps : List Addr) (kvs : List (Key × V)), xs = [.ref a] ∧ PlT H a (ps.map V.ref) ∧ Paired (fun p kv => SqT K H p [kV kv.1, kv.2]) ps kvs ∧
  ∀ p, H p = none → Q (.ref p) (upd H p (.dK (mergeK [] kvs)))
theorem call_dictPT (hcalm : X.calm = true) : CallR X (.type "dict") (rDictT X.K) := by
  intro pins s σ H xs us Q I r q
  obtain ⟨a, ps, kvs, ex, ⟨ob, ⟨oc, od⟩, ha⟩, hp, q⟩ := q
  subst ex
  obtain ⟨u, eu, rx⟩ := vals1 r
  subst eu
  cases rx
  obtain ⟨e, hz, its, rv, o2, ho2, hc2, n, hd2⟩ := I.hok a _ ha
  have eo : ob = o2 := by
    rw [e] at ho2
    exact Option.some.inj ho2
  subst eo
  have ei := refs_at rv
  subst ei
  rw [List.length_map] at hz
  obtain ⟨prs, vvs, rel, hl, hl2, hpr⟩ := pairs_v I hp
  refine PySem.call_dict_pairs (knd := mixKind X.prog X.w) (kvs := prs) (PairArg.tuple a (ps.map Value.ref).toArray (fun j => ps.getD j 0) vvs) (I.ok.hd hcalm) ⟨⟨ob, n, e, oc, od, hd2⟩, by rw [List.size_toArray, List.length_map, hl2], fun j k v hj => ?_⟩ ⟨by rw [hl, hl2], fun i key v hv => ?_⟩ (by rw [hl2]; exact hz) fun h' tk hd' hk => ?_
  · obtain ⟨b, key, e1, e2, e3, e4⟩ := hpr j k v hj
    have eb : ps.getD j 0 = b := by rw [List.getD_eq_getElem?_getD, e1]; rfl
    refine ⟨?_, .inl ?_⟩
    · show _ = some (Value.ref (ps.getD j 0))
      rw [List.getElem?_toArray, List.getElem?_map, e1, eb]
      rfl
    · show s.heap.IsTuple (ps.getD j 0) _
      rw [eb]
      exact e2
  · obtain ⟨b, kk, e1, e2, e3, e4⟩ := hpr i key v hv
    exact ⟨kk, e3, e4⟩
  · have hm : (s.heap.objs.size == sysModules) = false := beq_eq_false_iff_ne.mpr (Nat.ne_of_gt I.big)
    have hlen : (mergeK [] kvs).length ≤ sizeLine := by
      refine Nat.le_trans (length_mergeK kvs []) ?_
      rw [List.length_nil, Nat.zero_add, rel.length, hl]
      exact hz
    exact ⟨.ref s.heap.objs.size, upd H s.heap.objs.size (.dK (mergeK [] kvs)), I.laid (t' := tk) (fun b o e => hk b o List.not_mem_nil e) (Nat.le_refl _) (show ObjOk X.prog X.w _ _ _ (.dK (mergeK [] kvs)) from ⟨hlen, hm, merged [] prs, KV.merge rel .nil, hd'⟩), rfl, q _ (I.hok.fresh (Nat.le_refl _))⟩
end
/-- a def by the names of its parameters, in any order: g puts them in order -/
theorem pe_kwg {X : Cx} {k j : Nat} {x : Str} {ps ks : List Str} {sp : Sp} {p pos : Pos} {kws : List Keyword} {tk : TA} {g : {α : Type} → List α → List α} (F : ∃ f fd, FnG X.prog X.w X.K X.mg X.base CX0 k f fd ps sp ∧ X.mg x = some (.ref f) ∧ PySem.W.keepIn X.K (.ref f) = true ∧ KwBinds X.K fd ps ks g) (hgd : X.A.guards = some []) (hr : Room j X.A) (hkw : PK X kws tk)
    (hrel : ∀ {zs : List V} {ws : List Value}, Vals zs ws → Vals (g zs) (g ws)) (hj : k ≤ j := by first | exact Nat.le_refl _ | decide)
    (hg : Gl X x := by rfl) (hall : (backToKw pos (keywordEach kws X.env)).all (·.1.isSome) = true := by rfl) (hks : (backToKw pos (keywordEach kws X.env)).filterMap (·.1) = ks := by rfl) (hdb : (x == ("__debug__" : Str)) = false := by decide)
    (hpl : ((backTo pos (starEach [] X.env)).any (·.1) || (backToKw pos (keywordEach kws X.env)).any (·.1.isNone)) = false := by rfl) :
    PE X (.Call (.Name x p) [] kws pos) (tKw sp g ps.length E0 tk) := by
  obtain ⟨f, fd, a, b, c, d⟩ := F
  exact pe_kw a hgd (hr.mono hj) hg b c d pass0 hkw hrel hall hks hdb hpl
/-- three by turns: the last two come first -/
def rot3 {α : Type} : List α → List α
  | [a, b, c] => [b, c, a]
  | l => l
def swap2 {α : Type} : List α → List α
  | [a, b] => [b, a]
  | l => l
theorem rot3_rel {zs : List V} {ws : List Value} (h : Vals zs ws) : Vals (rot3 zs) (rot3 ws) := by
  match zs, ws, h with
  | [], [], .nil => exact .nil
  | [_], [_], .cons a .nil => exact .cons a .nil
  | [_, _], [_, _], .cons a (.cons b .nil) => exact .cons a (.cons b .nil)
  | [_, _, _], [_, _, _], .cons a (.cons b (.cons c .nil)) => exact .cons b (.cons c (.cons a .nil))
  | _ :: _ :: _ :: _ :: _, _ :: _ :: _ :: _ :: _, h => exact h
theorem swap2_rel {zs : List V} {ws : List Value} (h : Vals zs ws) : Vals (swap2 zs) (swap2 ws) := by
  match zs, ws, h with
  | [], [], .nil => exact .nil
  | [_], [_], .cons a .nil => exact .cons a .nil
  | [_, _], [_, _], .cons a (.cons b .nil) => exact .cons b (.cons a .nil)
  | _ :: _ :: _ :: _, _ :: _ :: _ :: _, h => exact h
end L2.Hx

/-! The text of the law of rings and long lists: its defs by their places. -/
namespace L2.Hx
open PySem PySem.Spec PyProof.Rows
abbrev pw : Program := PySem.Challenge.pw_heldapart_k09_rings_and_long_lists
def top (i : Nat) : Stmt := pw.main.body.getD i (.Pass ⟨0, 0, 0, 0⟩)
abbrev s_holds : Stmt := top 1
theorem sc_holds : FnScope ["saying", "store", "heap", "cells"] ["saying", "store", "heap"] (defScope s_holds) := ⟨rfl, rfl, rfl, by decide +kernel, rfl, by decide +kernel, by decide +kernel⟩
abbrev s_part_of : Stmt := top 2
theorem sc_part_of : FnScope ["clause", "store", "heap", "cells", "took", "cell"] ["clause", "store", "heap"] (defScope s_part_of) := ⟨rfl, rfl, rfl, by decide +kernel, rfl, by decide +kernel, by decide +kernel⟩
abbrev s_values_of : Stmt := top 3
theorem sc_values_of : FnScope ["store", "values"] ["store"] (defScope s_values_of) := ⟨rfl, rfl, rfl, by decide +kernel, rfl, by decide +kernel, by decide +kernel⟩
abbrev s_looks_hold : Stmt := top 4
theorem sc_looks_hold : FnScope ["looks", "values", "word", "left", "right"] ["looks", "values"] (defScope s_looks_hold) := ⟨rfl, rfl, rfl, by decide +kernel, rfl, by decide +kernel, by decide +kernel⟩
abbrev s_takes_all : Stmt := top 5
theorem sc_takes_all : FnScope ["saying", "values", "leads", "singles", "clause", "took"] ["saying", "values", "leads", "singles"] (defScope s_takes_all) := ⟨rfl, rfl, rfl, by decide +kernel, rfl, by decide +kernel, by decide +kernel⟩
abbrev s_taken : Stmt := top 6
theorem sc_taken : FnScope ["clause", "values", "leads", "singles", "looks", "parts", "took", "word", "left", "right", "at", "end"] ["clause", "values", "leads", "singles"] (defScope s_taken) := ⟨rfl, rfl, rfl, by decide +kernel, rfl, by decide +kernel, by decide +kernel⟩
abbrev s_takes_list : Stmt := top 7
theorem sc_takes_list : FnScope ["at", "end", "leads", "took"] ["at", "end", "leads", "took"] (defScope s_takes_list) := ⟨rfl, rfl, rfl, by decide +kernel, rfl, by decide +kernel, by decide +kernel⟩
abbrev s_lost : Stmt := top 8
theorem sc_lost : FnScope ["store", "heap", "cells", "reached", "_", "value", "at", "address"] ["store", "heap"] (defScope s_lost) := ⟨rfl, rfl, rfl, by decide +kernel, rfl, by decide +kernel, by decide +kernel⟩
abbrev s_l_deck : Stmt := top 10
theorem sc_l_deck : FnScope ["script", "deck", "cell", "whole"] ["script"] (defScope s_l_deck) := ⟨rfl, rfl, rfl, by decide +kernel, rfl, by decide +kernel, by decide +kernel⟩
abbrev s_l_draw : Stmt := top 11
theorem sc_l_draw : FnScope ["deck", "many", "whole", "number"] ["deck", "many"] (defScope s_l_draw) := ⟨rfl, rfl, rfl, by decide +kernel, rfl, by decide +kernel, by decide +kernel⟩
abbrev s_l_pick : Stmt := top 12
theorem sc_l_pick : FnScope ["deck", "items"] ["deck", "items"] (defScope s_l_pick) := ⟨rfl, rfl, rfl, by decide +kernel, rfl, by decide +kernel, by decide +kernel⟩
abbrev s_l_shuffled : Stmt := top 13
theorem sc_l_shuffled : FnScope ["deck", "items", "left", "rest"] ["deck", "items"] (defScope s_l_shuffled) := ⟨rfl, rfl, rfl, by decide +kernel, rfl, by decide +kernel, by decide +kernel⟩
abbrev s_l_worth : Stmt := top 14
theorem sc_l_worth : FnScope ["store", "term"] ["store", "term"] (defScope s_l_worth) := ⟨rfl, rfl, rfl, by decide +kernel, rfl, by decide +kernel, by decide +kernel⟩
abbrev s_l_looks_true : Stmt := top 15
theorem sc_l_looks_true : FnScope ["clause", "store", "word", "one", "other"] ["clause", "store"] (defScope s_l_looks_true) := ⟨rfl, rfl, rfl, by decide +kernel, rfl, by decide +kernel, by decide +kernel⟩
abbrev s_l_road : Stmt := top 16
theorem sc_l_road : FnScope ["part", "store", "heap", "at", "end", "cells", "road"] ["part", "store", "heap"] (defScope s_l_road) := ⟨rfl, rfl, rfl, by decide +kernel, rfl, by decide +kernel, by decide +kernel⟩
abbrev s_l_roads : Stmt := top 17
theorem sc_l_roads : FnScope ["clause", "store", "heap", "roads", "seen", "part", "road", "at"] ["clause", "store", "heap"] (defScope s_l_roads) := ⟨rfl, rfl, rfl, by decide +kernel, rfl, by decide +kernel, by decide +kernel⟩
abbrev s_l_is_so : Stmt := top 18
theorem sc_l_is_so : FnScope ["clause", "store", "heap", "roads", "road"] ["clause", "store", "heap"] (defScope s_l_is_so) := ⟨rfl, rfl, rfl, by decide +kernel, rfl, by decide +kernel, by decide +kernel⟩
abbrev s_l_chain : Stmt := top 19
theorem sc_l_chain : FnScope ["deck", "many", "way", "step_on", "ats", "spot", "ends"] ["deck", "many", "way"] (defScope s_l_chain) := ⟨rfl, rfl, rfl, by decide +kernel, rfl, by decide +kernel, by decide +kernel⟩
abbrev s_l_part : Stmt := top 20
theorem sc_l_part : FnScope ["clause", "store", "heap", "roads", "taken_v", "road", "at", "cell"] ["clause", "store", "heap"] (defScope s_l_part) := ⟨rfl, rfl, rfl, by decide +kernel, rfl, by decide +kernel, by decide +kernel⟩
abbrev s_l_lost : Stmt := top 21
theorem sc_l_lost : FnScope ["store", "heap", "cells", "seen", "name", "at", "value"] ["store", "heap"] (defScope s_l_lost) := ⟨rfl, rfl, rfl, by decide +kernel, rfl, by decide +kernel, by decide +kernel⟩
abbrev s_l_is_right : Stmt := top 22
theorem sc_l_is_right : FnScope ["clause", "store", "heap", "is_named", "known", "due", "whole", "seen"] ["clause", "store", "heap", "is_named"] (defScope s_l_is_right) := ⟨rfl, rfl, rfl, by decide +kernel, rfl, by decide +kernel, by decide +kernel⟩
abbrev s_law : Stmt := top 23
theorem sc_law : FnScope ["script", "deck", "turn", "many", "ats", "heap", "values", "store", "name", "again", "terms", "rows", "looks", "clause"] ["script"] (defScope s_law) := ⟨rfl, rfl, rfl, by decide +kernel, rfl, by decide +kernel, by decide +kernel⟩
structure Txt (K : PySem.W.Frag) (mg : Str → Option Value) : Prop where
  b_abs : mg "abs" = none
  b_dict : mg "dict" = none
  b_int : mg "int" = none
  b_len : mg "len" = none
  b_list : mg "list" = none
  b_range : mg "range" = none
  b_repr : mg "repr" = none
  b_sorted : mg "sorted" = none
  b_sum : mg "sum" = none
  b_tuple : mg "tuple" = none
  b_zip : mg "zip" = none
  d_holds : ∃ f fd, Src K mg "holds" s_holds ["saying", "store", "heap"] f fd
  d_part_of : ∃ f fd, Src K mg "part_of" s_part_of ["clause", "store", "heap"] f fd
  d_values_of : ∃ f fd, Src K mg "values_of" s_values_of ["store"] f fd
  d_looks_hold : ∃ f fd, Src K mg "looks_hold" s_looks_hold ["looks", "values"] f fd
  d_takes_all : ∃ f fd, Src K mg "takes_all" s_takes_all ["saying", "values", "leads", "singles"] f fd
  d_taken : ∃ f fd, Src K mg "taken" s_taken ["clause", "values", "leads", "singles"] f fd
  d_takes_list : ∃ f fd, Src K mg "takes_list" s_takes_list ["at", "end", "leads", "took"] f fd
  d_lost : ∃ f fd, Src K mg "lost" s_lost ["store", "heap"] f fd
  d_l_deck : ∃ f fd, Src K mg "_law_deck" s_l_deck ["script"] f fd
  d_l_draw : ∃ f fd, Src K mg "_law_draw" s_l_draw ["deck", "many"] f fd
  d_l_pick : ∃ f fd, Src K mg "_law_pick" s_l_pick ["deck", "items"] f fd
  d_l_shuffled : ∃ f fd, Src K mg "_law_shuffled" s_l_shuffled ["deck", "items"] f fd
  d_l_worth : ∃ f fd, Src K mg "_law_worth" s_l_worth ["store", "term"] f fd
  d_l_looks_true : ∃ f fd, Src K mg "_law_looks_true" s_l_looks_true ["clause", "store"] f fd
  d_l_road : ∃ f fd, Src K mg "_law_road" s_l_road ["part", "store", "heap"] f fd
  d_l_roads : ∃ f fd, Src K mg "_law_roads" s_l_roads ["clause", "store", "heap"] f fd
  d_l_chain : ∃ f fd, Src K mg "_law_chain" s_l_chain ["deck", "many", "way"] f fd
  d_l_part : ∃ f fd, Src K mg "_law_part" s_l_part ["clause", "store", "heap"] f fd
  d_l_lost : ∃ f fd, Src K mg "_law_lost" s_l_lost ["store", "heap"] f fd
  d_l_is_right : ∃ f fd, Src K mg "_law_is_right" s_l_is_right ["clause", "store", "heap", "is_named"] f fd
  d_law : ∃ f fd, Src K mg "law" s_law ["script"] f fd
section
variable {X : Cx}
theorem pe_cI {x : Str} {i : Int} {pos : Pos} (h : ∃ t, X.mg x = some (.int i t)) (hg : Gl X x := by rfl) (hd : (x == ("__debug__" : Str)) = false := by decide) : PE X (.Name x pos) (tC (.int i)) := let ⟨t, h⟩ := h; pe_glob hg h ⟨t, rfl⟩ hd
theorem pe_cS {x y : Str} {pos : Pos} (h : ∃ t, X.mg x = some (.str y t)) (hg : Gl X x := by rfl) (hd : (x == ("__debug__" : Str)) = false := by decide) : PE X (.Name x pos) (tC (.str y)) := let ⟨t, h⟩ := h; pe_glob hg h ⟨t, rfl⟩ hd
theorem pe_cR {x : Str} {a : Addr} {pos : Pos} (h : X.mg x = some (.ref a)) (hg : Gl X x := by rfl) (hd : (x == ("__debug__" : Str)) = false := by decide) : PE X (.Name x pos) (tC (.ref a)) := pe_glob hg h rfl hd
theorem pe_bT {x : Str} {n : String} {pos : Pos} (h : X.mg x = none) (hv : bootBuiltins x = some (.type n)) (hg : Gl X x := by rfl) (hn : x ≠ "__name__" := by decide) (hd : (x == ("__debug__" : Str)) = false := by decide) : PE X (.Name x pos) (tC (.ty n)) := pe_bltn hg h hv rfl hn hd
end
end L2.Hx

/-! The deck: a draw, a pick. -/
namespace L2.Hx
open PySem PySem.Spec PyProof.Rows
theorem dget_great {H : Hp} {p l : Addr} {m t : Int} (h : H p = some (.dK (deckD l m t))) : DGet H p (.str "great") (some (.ref l)) := by
  rw [← deck_great l m t]
  exact DGet.k (k := kGreat) h
theorem dget_mixed {H : Hp} {p l : Addr} {m t : Int} (h : H p = some (.dK (deckD l m t))) : DGet H p (.str "mixed") (some (.int m)) := by
  rw [← deck_mixed l m t]
  exact DGet.k (k := kMixed) h
theorem dget_turns {H : Hp} {p l : Addr} {m t : Int} (h : H p = some (.dK (deckD l m t))) : DGet H p (.str "turns") (some (.int t)) := by
  rw [← deck_turns l m t]
  exact DGet.k (k := kTurns) h
theorem dput_turns {H : Hp} {p l : Addr} {m t u : Int} (h : H p = some (.dK (deckD l m t))) : DPut H p (.str "turns") (.int u) (upd H p (.dK (deckD l m u))) := by
  rw [← deck_put_turns l m t u]
  exact DPut.k (k := kTurns) h (by show 3 < sizeLine; decide)
theorem dput_mixed {H : Hp} {p l : Addr} {m t u : Int} (h : H p = some (.dK (deckD l m t))) : DPut H p (.str "mixed") (.int u) (upd H p (.dK (deckD l u t))) := by
  rw [← deck_put_mixed l m t u]
  exact DPut.k (k := kMixed) h (by show 3 < sizeLine; decide)
theorem dp_ints {K : PySem.W.Frag} {H : Hp} : ∀ ns : List Int, DpAll K H (ns.map V.int) (ns.map PyData.int)
  | [] => .nil
  | n :: ns => .cons (.int n) (dp_ints ns)
theorem shaped_ints (ns : List Int) : SeqAt.shaped (.list (ns.map PyData.int)) = true := by
  have h1 : ∀ ns : List Int, PyData.canLayAll0 (ns.map PyData.int) = true := fun ns => by
    induction ns with
    | nil => rfl
    | cons n ns ih => simpa [PyData.canLayAll0, PyData.canLay0] using ih
  have h2 : ∀ ns : List Int, PyData.depthAll (ns.map PyData.int) ≤ 1 := fun ns => by
    induction ns with
    | nil => simp [PyData.depthAll]
    | cons n ns ih =>
      simp only [List.map_cons, PyData.depthAll, PyData.depth]
      omega
  have a := h1 ns
  have b := h2 ns
  unfold SeqAt.shaped
  rw [Bool.and_eq_true]
  refine ⟨by simpa [PyData.canLay0] using a, decide_eq_true ?_⟩
  simp only [PyData.depth]
  omega
theorem eqv_nil (ns : List Int) : PyData.eqv (.list (ns.map PyData.int)) (.list []) = decide (ns = []) := by
  cases ns <;> simp [PyData.eqv, PyData.eqvAll]
theorem Wd.gset {p l : Addr} {G H : Hp} (W : Wd p l G H) (ns : List Int) (hz : ns.length ≤ 63) : Ext p l G H G (upd H l (.lst (ns.map V.int))) := by
  have ne := W.ne
  refine ⟨⟨fun b u q => ?_, W.gp, W.gl, ?_, ⟨ns, hz, upd_same⟩⟩, Same.refl G, fun b u _ n2 q => by rw [upd_ne n2]; exact q, fun _ _ _ g => g⟩
  · rw [upd_ne (ne_of_none q W.gl)]
    exact W.same b u q
  · obtain ⟨m, t, m0, m1, e⟩ := W.dk
    exact ⟨m, t, m0, m1, by rw [upd_ne ne]; exact e⟩
theorem Wd.dset {p l : Addr} {G H : Hp} (W : Wd p l G H) {m t : Int} (m0 : 0 ≤ m) (m1 : m < 4294967291) : Ext p l G H G (upd H p (.dK (deckD l m t))) := by
  have ne := W.ne
  refine ⟨⟨fun b u q => ?_, W.gp, W.gl, ⟨m, t, m0, m1, upd_same⟩, ?_⟩, Same.refl G, fun b u n1 _ q => by rw [upd_ne n1]; exact q, fun _ _ _ g => g⟩
  · rw [upd_ne (ne_of_none q W.gp)]
    exact W.same b u q
  · obtain ⟨ns, z, e⟩ := W.ls
    exact ⟨ns, z, by rw [upd_ne ne.symm]; exact e⟩

def spDraw : Sp := fun vs H Q _ => ∃ (p l : Addr) (G : Hp) (many : Int), vs = [.ref p, .int many] ∧ 1 ≤ many ∧ many < 1000000 ∧ Wd p l G H ∧ ∀ (r : Int) (H' : Hp), 0 ≤ r → r < many → Ext p l G H G H' → Q (.int r) H'
section
variable {P : Program} {w : World} {K : PySem.W.Frag} {mg : Str → Option Value} {base : Heap}
theorem D_draw (T : Txt K mg) : Df P w K mg base 1 "_law_draw" ["deck", "many"] spDraw := by
  obtain ⟨f, fd, S⟩ := T.d_l_draw
  refine Df.mk' (k := 0) S sc_l_draw (fun vs H Q E h => ?_) (fun cdv A outer s H vs Q E hgd hr h => ?_)
  · obtain ⟨p, l, G, many, rfl, _⟩ := h
    rfl
  · obtain ⟨p, l, G, many, rfl, h1, h2, W, k⟩ := h
    have hu := hu_of hr
    refine ⟨_, (pss_cons (ps_if (pt_cmpR op_lt (pv 1) pe_int (nomark _)) (pss_one (ps_ret pe_int)) pss_nil)
      (pss_cons (ps_if (pt_cmpR (op_neD hr.units) (pe_dget hu (pv 0) pe_str (fun _ _ => rfl)) (pe_lst pa_nil) (nomark _)) (pss_cons (ps_set (i := 2) sc_l_draw.nd rfl (.inl rfl) (pe_bm0 PySem.F.plainAttrs_list PySem.F.slot_list_pop PySem.F.type_list_pop mt_pop (pe_dget hu (pv 0) pe_str (fun _ _ => rfl))))
      (pss_cons (ps_if (pt_cmpR op_ge (pv 2) (pv 1) (nomark _)) (pss_one (ps_expr (pe_bm PySem.F.plainAttrs_list PySem.F.slot_list_append PySem.F.type_list_append mt_append (pe_dget hu (pv 0) pe_str (fun _ _ => rfl)) (pa_cons (pe_op op_fdivN (pv 2) (pv 1)) pa_nil)))) pss_nil)
      (pss_one (ps_ret (pe_op op_mod (pe_callTy call_int1 (by rfl) T.b_int (by decide +kernel) (pa_cons (pv 2) pa_nil)) (pv 1)))))) pss_nil)
      (pss_cons (ps_dput hu (pv 0) pe_str (pe_op op_add (pe_dget hu (pv 0) pe_str (fun _ _ => rfl)) pe_int) rfl)
      (pss_cons (ps_set (i := 3) sc_l_draw.nd rfl (.inl rfl) (pe_op op_mod (pe_callTy call_int1 (by rfl) T.b_int (by decide +kernel) (pa_cons (pe_op op_add (pe_dget hu (pv 0) pe_str (fun _ _ => rfl)) (pe_op op_mul pe_int (pe_dget hu (pv 0) pe_str (fun _ _ => rfl)))) pa_nil)) pe_int))
      (pss_cons (ps_set (i := 3) sc_l_draw.nd rfl (.inl rfl) (pe_op op_mod (pe_callTy call_int1 (by rfl) T.b_int (by decide +kernel) (pa_cons (pe_op op_add (pe_op op_add (pe_op op_mul (pv 3) (pv 3)) (pe_op op_mul pe_int (pe_dget hu (pv 0) pe_str (fun _ _ => rfl)))) pe_int) pa_nil)) pe_int))
      (pss_cons (ps_set (i := 3) sc_l_draw.nd rfl (.inl rfl) (pe_op op_mod (pe_callTy call_int1 (by rfl) T.b_int (by decide +kernel) (pa_cons (pe_op op_add (pe_op op_mul (pv 3) (pv 3)) (pe_op op_mul (pe_dget hu (pv 0) pe_str (fun _ _ => rfl)) pe_int)) pa_nil)) pe_int))
      (pss_one (ps_ret (pe_op op_mod (pe_callTy call_int1 (by rfl) T.b_int (by decide +kernel) (pa_cons (pe_op op_fdiv (pv 3) pe_int) pa_nil)) (pv 1)))))))))), ?_⟩
    refine ⟨_, rfl, _, _, rfl, rfl, _, rfl, ite2 (fun hc => ?_) (fun hc => ?_)⟩
    · exact k 0 H (Int.le_refl _) (by omega) (Ext.refl W)
    have hm : 2 ≤ many := by
      have := of_decide_eq_false (Bool.eq_false_iff.mpr hc)
      omega
    obtain ⟨m, t, m0, m1, hd⟩ := W.dk
    obtain ⟨ns, hz, hl⟩ := W.ls
    refine ⟨_, rfl, p, _, rfl, dget_great hd, Nat.zero_le _, fun q hq => ?_⟩
    have E1 := W.tmp (o := .lst []) hq
    have hq_p := W.np hq
    have hq_l := W.nl hq
    have hd1 : upd H q (.lst []) p = some (.dK (deckD l m t)) := by rw [upd_ne hq_p.symm]; exact hd
    have hl1 : upd H q (.lst []) l = some (.lst (ns.map V.int)) := by rw [upd_ne hq_l.symm]; exact hl
    refine ⟨.list (ns.map PyData.int), .list [], .lst (SqL.of hl1) (dp_ints ns), .lst (SqL.of upd_same) .nil, shaped_ints ns, rfl, _, rfl, ?_⟩
    rw [eqv_nil]
    refine ite2 (fun hc2 => ?_) (fun hc2 => ?_)
    · -- the great ones
      have hne : ns ≠ [] := by simpa using hc2
      obtain ⟨y, hy⟩ : ∃ y, ns[ns.length - 1]? = some y := by
        cases e : ns[ns.length - 1]? with
        | some y => exact ⟨y, rfl⟩
        | none =>
          have := List.getElem?_eq_none_iff.mp e
          have : 0 < ns.length := List.length_pos_iff.mpr hne
          omega
      have hdl : (ns.map V.int).dropLast = ns.dropLast.map V.int := by rw [List.map_dropLast]
      have hzl : ns.dropLast.length = ns.length - 1 := by simp
      have hpos : 0 < ns.length := List.length_pos_iff.mpr hne
      refine ⟨_, rfl, p, _, rfl, dget_great hd1, .inl ⟨rfl, _, SqL.of hl1⟩, l, ns.map V.int, .int y, rfl, rfl, hl1, by rw [List.length_map, List.getElem?_map, hy]; rfl, ?_⟩
      rw [hdl]
      have E2 := E1.trans W (E1.w.gset ns.dropLast (by omega))
      generalize hH2 : upd (upd H q (.lst [])) l (.lst (ns.dropLast.map V.int)) = H2 at E2 ⊢
      have hl2 : H2 l = some (.lst (ns.dropLast.map V.int)) := by rw [← hH2, upd_same]
      have hd2 : H2 p = some (.dK (deckD l m t)) := by rw [← hH2, upd_ne W.ne]; exact hd1
      refine ⟨_, rfl, _, rfl, _, _, rfl, rfl, _, rfl, ite2 (fun hc3 => ?_) (fun hc3 => ?_)⟩
      · refine ⟨_, rfl, p, _, rfl, dget_great hd2, .inl ⟨rfl, _, SqL.of hl2⟩, _, rfl, _, rfl, _, _, rfl, rfl, ⟨by omega, by omega⟩, l, _, _, rfl, rfl, hl2, by rw [List.length_map, hzl]; exact small1000 (by omega), ?_⟩
        have E3 := E2.trans W (E2.w.gset (ns.dropLast ++ [y.fdiv many]) (by rw [List.length_append, hzl, List.length_singleton]; omega))
        rw [show (ns.dropLast.map V.int ++ [V.int (y.fdiv many)]) = (ns.dropLast ++ [y.fdiv many]).map V.int by rw [List.map_append]; rfl]
        refine ⟨_, rfl, .inl ⟨_, rfl, _, rfl, _, _, rfl, rfl, by show (0 : Int) < many; omega, ?_⟩⟩
        exact k _ _ (Int.emod_nonneg _ (by omega)) (Int.emod_lt_of_pos _ (by omega)) E3
      · refine ⟨_, rfl, .inl ⟨_, rfl, _, rfl, _, _, rfl, rfl, by show (0 : Int) < many; omega, ?_⟩⟩
        exact k _ _ (Int.emod_nonneg _ (by omega)) (Int.emod_lt_of_pos _ (by omega)) E2
    · -- the mixed ones
      refine ⟨_, rfl, p, _, rfl, dget_turns hd1, _, _, rfl, rfl, _, rfl, p, _, rfl, dput_turns hd1, ?_⟩
      have E2 := E1.trans W (E1.w.dset (t := t + 1) m0 m1)
      generalize hH2 : upd (upd H q (.lst [])) p (.dK (deckD l m (t + 1))) = H2 at E2 ⊢
      have hd2 : H2 p = some (.dK (deckD l m (t + 1))) := by rw [← hH2, upd_same]
      refine ⟨_, rfl, p, _, rfl, dget_mixed hd2, _, rfl, p, _, rfl, dget_turns hd2, _, _, rfl, rfl, .inl ⟨by decide, by decide⟩, _, _, rfl, rfl, .inl ⟨_, rfl, _, _, rfl, rfl, by show (0 : Int) < 4294967279; decide, ?_⟩⟩
      generalize hn1 : (m + 2654435761 * (t + 1)) % 4294967279 = n1
      have b1 : 0 ≤ n1 ∧ n1 < 4294967279 := by omega
      refine ⟨_, rfl, _, rfl, _, _, rfl, rfl, .inl ⟨by omega, by omega⟩, _, rfl, p, _, rfl, dget_turns hd2, _, _, rfl, rfl, .inl ⟨by decide, by decide⟩, _, _, rfl, rfl, _, _, rfl, rfl, .inl ⟨_, rfl, _, _, rfl, rfl, by show (0 : Int) < 4294967231; decide, ?_⟩⟩
      generalize hn2 : (n1 * n1 + 40503 * (t + 1) + 19) % 4294967231 = n2
      have b2 : 0 ≤ n2 ∧ n2 < 4294967231 := by omega
      refine ⟨_, rfl, _, rfl, _, _, rfl, rfl, .inl ⟨by omega, by omega⟩, _, rfl, p, _, rfl, dget_mixed hd2, _, _, rfl, rfl, .inr ⟨by decide, by decide⟩, _, _, rfl, rfl, .inl ⟨_, rfl, _, _, rfl, rfl, by show (0 : Int) < 4294967197; decide, ?_⟩⟩
      generalize hn3 : (n2 * n2 + m * 7) % 4294967197 = n3
      refine ⟨_, rfl, _, _, rfl, rfl, ⟨by decide, by decide⟩, .inl ⟨_, rfl, _, rfl, _, _, rfl, rfl, by show (0 : Int) < many; omega, ?_⟩⟩
      exact k _ _ (Int.emod_nonneg _ (by omega)) (Int.emod_lt_of_pos _ (by omega)) E2
end
end L2.Hx

/-! What the law's own defs have in common. -/
namespace L2.Hx
open PySem PySem.Spec PyProof.Rows
section
variable {P : Program} {w : World} {K : PySem.W.Frag} {mg : Str → Option Value} {base : Heap} {p l : Addr} {σ : St} {G : Hp}
theorem sameAdd {H : Hp} {a : Addr} {o : HO} (h : H a = none) : Same H (upd H a o) := fun b u q => by
  rw [upd_ne (ne_of_none q h)]
  exact q
theorem sameOut {H0 H : Hp} {a : Addr} {o : HO} (s : Same H0 H) (h : H0 a = none) : Same H0 (upd H a o) := fun b u q => by
  rw [upd_ne (ne_of_none q h)]
  exact s b u q
theorem Da.tupI {K : PySem.W.Frag} {G : Hp} {v : V} {ds : List PyData} (h : Da K G v (.tuple ds)) : ∃ a xs, v = .ref a ∧ SqT K G a xs ∧ DaAll K G xs ds := by
  cases h with
  | tup h t => exact ⟨_, _, rfl, h, t⟩
theorem Da.strI {K : PySem.W.Frag} {G : Hp} {v : V} {z : Str} (h : Da K G v (.str z)) : v = .str z := by
  cases h
  rfl
theorem ite_of {c A B : Prop} {x : Bool} [Decidable c] (e : x = decide c) (h1 : c → A) (h2 : ¬ c → B) : if x = true then A else B := by
  subst e
  exact ite2 (fun h => h1 (of_decide_eq_true h)) fun h => h2 (of_decide_eq_false (Bool.eq_false_iff.mpr h))
theorem iteNot {c : Bool} {A B : Prop} (h1 : c = false → A) (h2 : c = true → B) : if (!c) = true then A else B := by
  cases c
  · exact iteT (h1 rfl)
  · exact iteF (h2 rfl)
theorem iteB {c : Bool} {A B : Prop} (h1 : c = true → A) (h2 : c = false → B) : if c = true then A else B := by
  cases c
  · exact iteF (h2 rfl)
  · exact iteT (h1 rfl)
theorem behindI {N I : Hp → Prop} {A : Prop} (main : (∀ H2, I H2 → N H2) → A) (fin : ∀ H2, I H2 → N H2) : A := main fin
theorem behindP {N I : V → Hp → Prop} {A : Prop} (main : (∀ u H2, I u H2 → N u H2) → A) (fin : ∀ u H2, I u H2 → N u H2) : A := main fin
theorem behind {N : Hp → Prop} {p l : Addr} {G H : Hp} {A : Prop} (main : (∀ H2 G2, Ext p l G H G2 H2 → N H2) → A) (fin : ∀ H2 G2, Ext p l G H G2 H2 → N H2) : A := main fin
theorem ite_dec {c A B : Prop} [Decidable c] (hc : c) (h : A) : if decide c = true then A else B := by
  rw [if_pos (decide_eq_true hc)]
  exact h
theorem if_no {c : Bool} {A B : Prop} (h : c = false) (b : B) : if c = true then A else B := by
  rw [h]
  exact b
theorem Wd.still {p l : Addr} {G H H' : Hp} (W : Wd p l G H) (s : Same H H') : Ext p l G H G H' := by
  refine ⟨⟨W.same.trans s, W.gp, W.gl, ?_, ?_⟩, Same.refl G, fun b o _ _ q => s b o q, fun _ _ _ g => g⟩
  · obtain ⟨m, t, m0, m1, e⟩ := W.dk
    exact ⟨m, t, m0, m1, s _ _ e⟩
  · obtain ⟨ns, z, e⟩ := W.ls
    exact ⟨ns, z, s _ _ e⟩
theorem Okd.fit {k n : Nat} {d : PyData} (h : Okd k n d) (hn : n ≤ sizeLine) : Fit d := ⟨h.ok, Nat.le_trans h.sz hn⟩
theorem cut_ints (ns : List Int) (lo hi : Option Int) : ∃ ms : List Int, cutV (ns.map V.int) lo hi = ms.map V.int ∧ ms.length ≤ ns.length := by
  refine ⟨(ns.drop (HT.sIx (ns.map V.int).length 0 lo)).take (HT.sIx (ns.map V.int).length (ns.map V.int).length hi - HT.sIx (ns.map V.int).length 0 lo), ?_, ?_⟩
  · unfold cutV
    rw [List.map_take, List.map_drop]
  · rw [List.length_take, List.length_drop]
    omega
theorem deck_merge (l : Addr) (m t : Int) : mergeK [] (deckD l m t) = deckD l m t := by
  have h1 : decide (("great" : Str) = "mixed") = false := by decide +kernel
  have h2 : decide (("great" : Str) = "turns") = false := by decide +kernel
  have h3 : decide (("mixed" : Str) = "turns") = false := by decide +kernel
  have n1 := of_decide_eq_false h1
  have n2 := of_decide_eq_false h2
  have n3 := of_decide_eq_false h3
  simp [mergeK, deckD, putK, n1, n2, n3]
def spDeck (K : PySem.W.Frag) : Sp := fun vs H Q _ => ∃ (a : Addr) (ns : List Int), vs = [.ref a] ∧ SqL K H a (ns.map V.int) ∧ ns.length ≤ 63 ∧ ∀ p l H', Wd p l H H' → Q (.ref p) H'
theorem D_deck (T : Txt K mg) : Df P w K mg base 1 "_law_deck" ["script"] (spDeck K) := by
  obtain ⟨f, fd, S⟩ := T.d_l_deck
  refine Df.mk' (k := 0) S sc_l_deck (fun vs H Q E h => ?_) (fun cdv A outer s H vs Q E hgd hr h => ?_)
  · obtain ⟨a, ns, rfl, _⟩ := h
    rfl
  · obtain ⟨a, ns, rfl, hS, hz, k⟩ := h
    have hu := hu_of hr
    refine ⟨_, (pss_cons (ps_set (i := 1) sc_l_deck.nd rfl (.inl rfl) (pe_disp (pps_cons pe_str (pe_lst pa_nil) (pps_cons pe_str (pe_op op_add pe_int (pe_callB call_len_seq (by rfl) T.b_len (by decide +kernel) (pa_cons (pe_slice sl_list (pv 0) po_none (po_some pe_int)) pa_nil))) (pps_cons pe_str pe_int pps_nil))) (by rfl) (by rfl) (fun z => by cases z) (by decide)))
      (pss_cons (ps_for PassesOwn.never rfl (pi_list (pe_slice sl_list (pv 0) po_none (po_some pe_int))) (pg_name (i := 2) sc_l_deck.nd rfl (.inl rfl))
      (pss_cons (ps_set (i := 3) sc_l_deck.nd rfl (.inl rfl) (pe_op op_add (pe_op op_mul pe_int (pe_callB call_abs (by rfl) T.b_abs (by decide +kernel) (pa_cons (pv 2) pa_nil))) (pe_callTy call_int1 (by rfl) T.b_int (by decide +kernel) (pa_cons (pe_cmpR op_lt (pv 2) pe_int (nomark _)) pa_nil))))
      (pss_cons (ps_if (pt_cmpR op_ge (pv 3) (pe_op op_pow pe_int pe_int) (nomark _)) (pss_one (ps_expr (pe_bm PySem.F.plainAttrs_list PySem.F.slot_list_append PySem.F.type_list_append mt_append (pe_dget hu (pv 1) pe_str (fun _ _ => rfl)) (pa_cons (pv 3) pa_nil)))) pss_nil)
      (pss_one (ps_dput hu (pv 1) pe_str (pe_op op_mod (pe_callTy call_int1 (by rfl) T.b_int (by decide +kernel) (pa_cons (pe_op op_add (pe_op op_add (pe_op op_mul (pe_dget hu (pv 1) pe_str (fun _ _ => rfl)) pe_int) (pv 3)) pe_int) pa_nil)) pe_int) rfl)))))
      (pss_one (ps_ret (pv 1))))), ?_⟩
    refine fun p hp => ⟨Nat.zero_le _, fun l hl => ?_⟩
    have npl : p ≠ l := fun z => by
      rw [z, upd_same] at hl
      cases hl
    have hl0 : H l = none := by
      rw [upd_ne npl.symm] at hl
      exact hl
    have s0 : Same H (upd (upd H p (.dK [])) l (.lst [])) := (sameAdd hp).trans (sameAdd hl)
    refine ⟨_, rfl, _, rfl, a, _, rfl, s0.seq hS, fun q hq => ?_⟩
    obtain ⟨ms, e1, e2⟩ := cut_ints ns none (some 63)
    rw [e1]
    have nqp : q ≠ p := fun z => by
      rw [z, upd_ne npl, upd_same] at hq
      cases hq
    have nql : q ≠ l := fun z => by
      rw [z, upd_same] at hq
      cases hq
    have hq0 : H q = none := by
      rw [upd_ne nql, upd_ne nqp] at hq
      exact hq
    refine ⟨q, _, rfl, .inl (SqL.of upd_same), _, _, rfl, rfl, by rw [upd_ne nqp.symm, upd_ne npl, upd_same], deckD l (1283 + ((ms.map V.int).length : Int)) 0, rfl, by show 3 ≤ 15; decide, ?_⟩
    rw [deck_merge, List.length_map]
    generalize hH1 : upd (upd (upd (upd H p (.dK [])) l (.lst [])) q (.lst (ms.map V.int))) p (.dK (deckD l (1283 + (ms.length : Int)) 0)) = H1
    have S1 : Same H H1 := by
      rw [← hH1]
      exact sameOut (sameOut (sameOut (sameOut (Same.refl H) hp) hl0) hq0) hp
    have W1 : Wd p l H H1 := ⟨S1, hp, hl0, ⟨1283 + (ms.length : Int), 0, by omega, by omega, by rw [← hH1, upd_same]⟩, ⟨[], by decide, by rw [← hH1, upd_ne npl.symm, upd_ne nql.symm, upd_same]; rfl⟩⟩
    have L1 : H1 l = some (.lst (([] : List Int).map V.int)) := by
      rw [← hH1, upd_ne npl.symm, upd_ne nql.symm, upd_same]
      rfl
    obtain ⟨ms2, e3, e4⟩ := cut_ints ns none (some 63)
    refine ⟨_, rfl, _, rfl, a, _, rfl, S1.seq hS, fun q2 hq2 => ?_⟩
    rw [e3]
    have n2p := W1.np hq2
    have n2l := W1.nl hq2
    have E1 := W1.tmp (o := .lst (ms2.map V.int)) hq2
    refine ⟨q2, rfl, ⟨_, SqL.of upd_same⟩, for_list (K := K) (a := q2) (xs := ms2.map V.int) (fun i σ H2 => ∃ c v, σ = [some (.ref a), some (.ref p), c, v] ∧ Wd p l H H2 ∧ (∃ gs : List Int, gs.length ≤ i ∧ H2 l = some (.lst (gs.map V.int))) ∧ H2 q2 = some (.lst (ms2.map V.int)))
      ⟨none, none, rfl, E1.w, ⟨[], Nat.le_refl _, by rw [upd_ne n2l.symm]; exact L1⟩, upd_same⟩ (fun i σ H2 _ ⟨_, _, _, _, _, h⟩ => SqL.of h) ?_ ?_⟩
    · rintro i x σ H2 hx ⟨c, v, rfl, W2, ⟨gs, g1, g2⟩, h2⟩
      have hi := (List.getElem?_eq_some_iff.mp hx).1
      rw [List.length_map] at hi
      obtain ⟨u, rfl⟩ : ∃ u, x = V.int u := by
        obtain ⟨u, _, e⟩ := List.mem_map.mp (List.mem_of_getElem? hx)
        exact ⟨u, e.symm⟩
      refine ⟨_, rfl, u, rfl, _, _, rfl, rfl, .inl ⟨by decide, by decide⟩, _, rfl, _, _, rfl, rfl, .inr ⟨_, rfl, _, _, rfl, rfl, ?_⟩⟩
      dsimp only
      generalize (2 * (if u < 0 then -u else u) + (if decide (u < 0) = true then 1 else 0) : Int) = wh
      refine' behindI (I := fun H3 => Wd p l H H3 ∧ (∃ gs : List Int, gs.length ≤ i + 1 ∧ H3 l = some (.lst (gs.map V.int))) ∧ H3 q2 = some (.lst (ms2.map V.int))) (fun fin => ?_) ?_
      rotate_left 1
      · refine ⟨_, rfl, _, _, rfl, rfl, ⟨by decide, by decide, by decide⟩, _, _, rfl, rfl, _, rfl, ite2 (fun _ => ?_) (fun _ => ?_)⟩
        · obtain ⟨m, t, m0, m1, hd⟩ := W2.dk
          refine ⟨_, rfl, p, _, rfl, dget_great hd, .inl ⟨rfl, _, SqL.of g2⟩, _, rfl, l, _, _, rfl, rfl, g2, by rw [List.length_map]; exact small1000 (by omega), ?_⟩
          have E3 := W2.gset (gs ++ [wh]) (by rw [List.length_append, List.length_singleton]; omega)
          rw [show gs.map V.int ++ [V.int wh] = (gs ++ [wh]).map V.int by rw [List.map_append]; rfl]
          have I3 : Wd p l H (upd H2 l (.lst ((gs ++ [wh]).map V.int))) ∧ (∃ gs2 : List Int, gs2.length ≤ i + 1 ∧ (upd H2 l (.lst ((gs ++ [wh]).map V.int))) l = some (.lst (gs2.map V.int))) ∧ (upd H2 l (.lst ((gs ++ [wh]).map V.int))) q2 = some (.lst (ms2.map V.int)) :=
            ⟨E3.w, ⟨gs ++ [wh], by rw [List.length_append, List.length_singleton]; omega, upd_same⟩, by rw [upd_ne n2l]; exact h2⟩
          generalize upd H2 l (.lst ((gs ++ [wh]).map V.int)) = H3 at I3 ⊢
          exact fin H3 I3
        · exact fin H2 ⟨W2, ⟨gs, by omega, g2⟩, h2⟩
      · rintro H3 ⟨W3, ⟨g3, z3, l3⟩, h3⟩
        obtain ⟨m, t, m0, m1, hd⟩ := W3.dk
        refine ⟨_, rfl, p, _, rfl, dget_mixed hd, _, _, rfl, rfl, .inr ⟨by decide, by decide⟩, _, rfl, _, _, rfl, rfl, _, _, rfl, rfl, .inl ⟨_, rfl, _, _, rfl, rfl, by show (0 : Int) < 4294967291; decide, _, rfl, p, _, rfl, dput_mixed hd, ?_⟩⟩
        have E4 := W3.dset (m := (m * 75161 + wh + 11) % 4294967291) (t := t) (Int.emod_nonneg _ (by decide)) (Int.emod_lt_of_pos _ (by decide))
        exact ⟨_, _, rfl, E4.w, ⟨g3, z3, by rw [upd_ne npl.symm]; exact l3⟩, by rw [upd_ne n2p]; exact h3⟩
    · rintro σ H2 ⟨c, v, rfl, W2, _, _⟩
      exact ⟨_, rfl, k p l H2 W2⟩
def LsP (ψ : PyData → Prop) (d : PyData) : Prop := ∃ ds, d = .list ds ∧ 0 < ds.length ∧ ds.length < 1000000 ∧ ∀ x ∈ ds, ψ x
def spPick : Sp := fun vs H Q _ => ∃ (p l : Addr) (G : Hp) (a : Addr) (xs : List V), vs = [.ref p, .ref a] ∧ Wd p l G H ∧ H a = some (.lst xs) ∧ a ≠ p ∧ a ≠ l ∧ 0 < xs.length ∧ xs.length < 1000000 ∧ ∀ x H', x ∈ xs → Ext p l G H G H' → Q x H'
def spDrawn (K : PySem.W.Frag) (ψ φ : PyData → Prop) : Sp := fun vs H Q _ => ∃ (p l : Addr) (G : Hp) (v : V) (d : PyData), vs = [.ref p, v] ∧ Wd p l G H ∧ Da K G v d ∧ ψ d ∧ ∀ u e G2 H2, Ext p l G H G2 H2 → Da K G2 u e → φ e → Q u H2
theorem atI_nat2 {xs : List V} {i : Int} (h0 : 0 ≤ i) (h1 : i < xs.length) : ∃ x, atI xs i = some x ∧ x ∈ xs := by
  have hi : i.toNat < xs.length := by omega
  refine ⟨xs[i.toNat], ?_, List.getElem_mem hi⟩
  unfold atI ixN
  rw [if_pos h0, if_pos h1]
  show xs[i.toNat]? = _
  rw [List.getElem?_eq_getElem hi]
theorem D_pick (T : Txt K mg) : Df P w K mg base 2 "_law_pick" ["deck", "items"] spPick := by
  have D_l_draw := D_draw (P := P) (w := w) (base := base) T
  obtain ⟨f, fd, S⟩ := T.d_l_pick
  refine Df.mk' (k := 1) S sc_l_pick (fun vs H Q E h => ?_) (fun cdv A outer s H vs Q E hgd hr h => ?_)
  · obtain ⟨p, l, G, a, xs, rfl, _⟩ := h
    rfl
  · obtain ⟨p, l, G, a, xs, rfl, W, ha, n1, n2, h0, h1, k⟩ := h
    refine ⟨_, (pss_one (ps_ret (pe_ix ix_list (pv 1) (pe_d D_l_draw hgd hr (pa_cons (pv 0) (pa_cons (pe_callB call_len_seq (by rfl) T.b_len (by decide +kernel) (pa_cons (pv 1) pa_nil)) pa_nil))) (fun _ _ => rfl)))), ?_⟩
    refine ⟨_, rfl, _, rfl, _, rfl, a, xs, rfl, .inl (SqL.of ha), p, l, G, _, rfl, by omega, by omega, W, fun r H1 r0 r1 e => ?_⟩
    obtain ⟨x, hx, mx⟩ := atI_nat2 r0 r1
    exact ⟨a, xs, r, x, rfl, rfl, SqL.of (e.keep _ _ n1 n2 ha), hx, k x H1 mx e⟩
theorem td_pick {p l : Addr} {σ : St} {G : Hp} {ta : TE} {ψ : PyData → Prop} {i : Nat} (h : TD K p l σ G ta (LsP ψ)) (hd : σ[i]? = some (some (.ref p))) : TD K p l σ G (tCall spPick [] E0 (tCons (tVar i) (tCons ta tNil))) ψ := fun G1 H Q W s kk =>
  ⟨_, hd, h G1 H _ W s fun v d G2 H2 e da f => by
    obtain ⟨ds, rfl, z0, z1, o⟩ := f
    cases da with
    | @lst a xs _ t1 a1 =>
      have hl := a1.length
      refine ⟨p, l, G2, a, xs, rfl, e.w, e.w.same _ _ t1, fun q => ?_, fun q => ?_, by omega, by omega, fun x H3 mx e3 => ?_⟩
      · rw [q, e.w.gp] at t1
        cases t1
      · rw [q, e.w.gl] at t1
        cases t1
      · obtain ⟨d, md, dd⟩ := a1.mem mx
        exact kk x d G2 H3 (e.trans W e3) dd (o d md)⟩
theorem td_lstP {p l : Addr} {σ : St} {G : Hp} {tr : TA} {Φ : List PyData → Prop} (h : TDs K p l σ G tr Φ) (hz : ∀ ds, Φ ds → ds.length ≤ sizeLine) : TD K p l σ G (tLst tr) (fun d => ∃ ds, d = .list ds ∧ Φ ds) := fun G1 H Q W s k =>
  h G1 H _ W s fun vs ds G2 H2 e da f => ⟨by rw [da.length]; exact hz ds f, fun a ha => k _ _ _ _ (e.trans W (e.w.put ha)) (.lst upd_same (da.mono (e.w.put (o := .lst vs) ha).sub)) ⟨ds, rfl, f⟩⟩
theorem td_mono {t : TE} {k n k2 n2 : Nat} (h : TD K p l σ G t (Okd k n)) (hk : k ≤ k2 := by decide) (hn : n ≤ n2 := by decide) : TD K p l σ G t (Okd k2 n2) := h.imp fun d f => f.mono hk hn
theorem TD.app {t : TE} {φ : PyData → Prop} (h : TD K p l σ G t φ) {H : Hp} {Q : VK} (W : Wd p l G H) (k : ∀ v d G2 H2, Ext p l G H G2 H2 → Da K G2 v d → φ d → Q v H2) : t σ H Q := h G H Q W (Same.refl G) k
theorem TDs.asgL {H : Hp} {D : Ends} {i : Nat} {tr : TA} {Φ : List PyData → Prop} (h : TDs K p l σ G tr Φ) (W : Wd p l G H) (hz : ∀ ds, Φ ds → ds.length ≤ sizeLine)
    (k : ∀ vs ds G2 H2 r, Ext p l G H G2 H2 → DaAll K G2 vs ds → Φ ds → H2 r = none → D.nx (σ.set i (some (.ref r))) (upd H2 r (.lst vs))) : tAsg (tLst tr) (gName i) D σ H :=
  h G H _ W (Same.refl G) fun vs ds G2 H2 e da f => ⟨by rw [da.length]; exact hz ds f, fun r hr => k vs ds G2 H2 r e da f hr⟩
theorem da_strs {K : PySem.W.Frag} {G : Hp} : ∀ ws : List Str, DaAll K G (ws.map V.str) (ws.map PyData.str)
  | [] => .nil
  | n :: ns => .cons (.str n) (da_strs ns)
theorem line16 : 16000000 ≤ sizeLine := by decide
end
theorem erase_perm {α : Type} : ∀ (l : List α) (i : Nat) (h : i < l.length), (l[i] :: l.eraseIdx i).Perm l
  | [], i, h => absurd h (Nat.not_lt_zero i)
  | x :: xs, 0, _ => .refl _
  | x :: xs, i + 1, h => (List.Perm.swap x (xs[i]'(Nat.lt_of_succ_lt_succ h)) (xs.eraseIdx i)).trans ((erase_perm xs i (Nat.lt_of_succ_lt_succ h)).cons x)
def IntD (B : Int) (d : PyData) : Prop := ∃ n : Int, d = .int n ∧ 0 ≤ n ∧ n ≤ B
def AllF (φ : PyData → Prop) (m : Nat) (ds : List PyData) : Prop := ds.length = m ∧ ∀ d ∈ ds, φ d
theorem vint {a b : Int} (h : V.int a = V.int b) : a = b := by
  cases h
  rfl
theorem tup_or : ∀ d : PyData, (∃ ds, d = .tuple ds) ∨ isTup d = false
  | .tuple ds => .inl ⟨ds, rfl⟩
  | .none => .inr rfl
  | .bool _ => .inr rfl
  | .int _ => .inr rfl
  | .str _ => .inr rfl
  | .list _ => .inr rfl
  | .dict _ => .inr rfl
section
variable {K : PySem.W.Frag} {p l : Addr} {σ : St} {G : Hp} {φ : PyData → Prop} {t te : TE} {tr : TA} {m : Nat} {B : Int}
theorem tds_nilF : TDs K p l σ G tNil (AllF φ 0) := fun G1 H Q W _ k => k _ _ _ _ (Ext.refl W) .nil ⟨rfl, fun d h => absurd h List.not_mem_nil⟩
theorem tds_consF (h : TD K p l σ G t φ) (hr : TDs K p l σ G tr (AllF φ m)) : TDs K p l σ G (tCons t tr) (AllF φ (m + 1)) := fun G1 H Q W s k =>
  tds_consP h hr G1 H Q W s fun vs ds G2 H2 e da f => k vs ds G2 H2 e da (by
    obtain ⟨d, r, rfl, h1, l1, h2⟩ := f
    refine ⟨by rw [List.length_cons, l1], fun x mx => ?_⟩
    rcases List.mem_cons.mp mx with rfl | mx
    · exact h1
    · exact h2 x mx)
theorem td_lstF (h : TDs K p l σ G tr (AllF φ (m + 1))) (hz : m + 1 < 1000000 := by decide) : TD K p l σ G (tLst tr) (LsP φ) := TD.imp (td_lstP h fun ds f => by
  have : 1000000 ≤ sizeLine := by decide
  rw [f.1]
  omega) fun d ⟨ds, e, l1, h1⟩ => ⟨ds, e, by omega, by omega, h1⟩
theorem td_intF {i : Int} (h0 : 0 ≤ i := by decide) (h1 : i ≤ B := by decide) : TD K p l σ G (tC (.int i)) (IntD B) := .flat (fun _ => .int i) ⟨i, rfl, h0, h1⟩
theorem td_powF {i : Int} (h : (0 : Int) ≤ 10 ^ i.toNat ∧ (10 : Int) ^ i.toNat ≤ B := by decide +kernel) (hc : CPow 10 i := by exact ⟨by decide, by decide, by decide⟩) : TD K p l σ G (tOp (rI CPow fun i j => .int (i ^ j.toNat)) (tC (.int 10)) (tC (.int i))) (IntD B) := fun G1 H Q W s kk =>
  ⟨10, i, rfl, rfl, hc, kk _ _ _ _ (Ext.refl W) (.int _) ⟨_, rfl, h.1, h.2⟩⟩
theorem td_varI {j : Nat} {i : Int} (hj : σ[j]? = some (some (.int i))) (h0 : 0 ≤ i) (h1 : i ≤ B) : TD K p l σ G (tVar j) (IntD B) := td_var hj (.int i) ⟨i, rfl, h0, h1⟩
theorem td_addI {j : Nat} {i c : Int} (hj : σ[j]? = some (some (.int i))) (h0 : 0 ≤ i + c) (h1 : i + c ≤ B) : TD K p l σ G (tOp (rI0 fun i j => .int (i + j)) (tVar j) (tC (.int c))) (IntD B) := fun G1 H Q W s kk =>
  ⟨_, hj, _, _, rfl, rfl, kk _ _ _ _ (Ext.refl W) (.int _) ⟨_, rfl, h0, h1⟩⟩
theorem td_lcl {a : Addr} {xs : List V} {i j : Nat} {φ : Nat → PyData → Prop} (hi : σ[i]? = some (some (.ref a))) (hS : SqL K G a xs) (hM : xs.length < sizeLine) (he : ∀ n x, xs[n]? = some x → TD K p l ((σ.set j none).set j (some x)) G te (φ n)) :
    TD K p l σ G (tLc (iList K (tVar i)) (gName j) tYes te [j]) (fun d => ∃ ds, d = .list ds ∧ ds.length = xs.length ∧ ∀ n e, ds[n]? = some e → φ n e) := fun G1 H Q W s k =>
  ⟨_, hi, a, rfl, ⟨xs, (s.trans W.same).seq hS⟩, fun D hD => by
    have nDp := W.np hD
    have nDl := W.nl hD
    have E1 := W.tmp (o := .lst []) hD
    refine lc_list (K := K) (a := a) (xs := xs) (fun i H3 => ∃ G3 vs ds, Wd p l G3 H3 ∧ Same G1 G3 ∧ G3 D = none ∧ H3 D = some (.lst vs) ∧ DaAll K G3 vs ds ∧ ds.length = i ∧ (∀ n e, ds[n]? = some e → φ n e) ∧
        (∀ b o, b ≠ p → b ≠ l → b ≠ D → H b = some o → H3 b = some o) ∧ (∀ b o, H b = some o → G1 b = none → G3 b = none))
      ⟨G1, [], [], E1.w, Same.refl _, W.same.free hD, upd_same, .nil, rfl, fun n e m => (by cases n <;> cases m), fun b o n1 n2 n3 q => by rw [upd_ne n3]; exact q, fun b o _ g => g⟩
      (fun i H3 _ ⟨G3, vs, ds, w3, s3, _⟩ => ((s.trans s3).trans w3.same).seq hS) ?_ ?_
    · rintro n x H3 hx ⟨G3, vs, ds, w3, s3, gD, hD3, da3, l3, f3, k3, n3⟩
      have hn := (List.getElem?_eq_some_iff.mp hx).1
      refine ⟨set_none σ, ?_⟩
      show te _ _ _
      refine he n x hx G3 H3 _ w3 (s.trans s3) fun v d G4 H4 e4 da4 f4 => ?_
      have hD4 : H4 D = some (.lst vs) := e4.keep _ _ nDp nDl hD3
      have gD4 : G4 D = none := e4.new _ _ hD3 gD
      refine ⟨vs, hD4, by rw [da3.length, l3]; omega, G4, vs ++ [v], ds ++ [d], e4.w.own nDp nDl gD4, s3.trans e4.sub, gD4, upd_same, (da3.mono e4.sub).append (.cons da4 .nil),
        by rw [List.length_append, l3]; rfl, fun n2 e2 m => ?_, fun b o n1 n2 n4 q => ?_, fun b o q g => ?_⟩
      · rw [List.getElem?_append] at m
        split at m
        · exact f3 _ _ m
        · have hn2 : n2 - ds.length = 0 := by
            have := (List.getElem?_eq_some_iff.mp m).1
            rw [List.length_singleton] at this
            omega
          rw [hn2] at m
          cases m
          have : n2 = n := by omega
          rw [this]
          exact f4
      · rw [upd_ne n4]
        exact e4.keep _ _ n1 n2 (k3 b o n1 n2 n4 q)
      · have g3 := n3 b o q g
        by_cases b1 : b = p
        · subst b1
          exact e4.w.gp
        · by_cases b2 : b = l
          · subst b2
            exact e4.w.gl
          · exact e4.new b o (k3 b o b1 b2 (ne_of_none q hD) q) g3
    · rintro H3 ⟨G3, vs, ds, w3, s3, gD, hD3, da3, l3, f3, k3, n3⟩
      obtain ⟨w4, s4⟩ := w3.hold nDp nDl gD hD3
      have E2 : Ext p l G1 H (upd G3 D (.lst vs)) H3 := ⟨w4, s3.trans s4, fun b o n1 n2 q => k3 b o n1 n2 (ne_of_none q hD) q, fun b o q g => by
        rw [upd_ne (ne_of_none q hD)]
        exact n3 b o q g⟩
      exact k _ _ _ _ E2 (.lst upd_same (da3.mono s4)) ⟨ds, rfl, l3, f3⟩⟩
end
end L2.Hx

/-! Rings and long lists: what is due, over plain lists. -/
namespace L2.Hx
open PySem PySem.Spec PyProof.Rows
def msr (ks S : List Int) : Nat := (ks.filter fun k => !decide (k ∈ S)).length
theorem msr_le (a : Int) (S : List Int) : ∀ ks : List Int, msr ks (S ++ [a]) ≤ msr ks S
  | [] => Nat.le_refl _
  | k :: ks => by
    have ih := msr_le a S ks
    unfold msr at ih ⊢
    rw [List.filter_cons, List.filter_cons]
    by_cases h : k ∈ S
    · rw [decide_eq_true h, decide_eq_true (List.mem_append_left [a] h)]
      exact ih
    · rw [decide_eq_false h]
      split
      · rw [if_pos (show (!false) = true from rfl), List.length_cons, List.length_cons]
        omega
      · rw [if_pos (show (!false) = true from rfl), List.length_cons]
        omega
theorem msr_lt {a : Int} {S : List Int} : ∀ {ks : List Int}, a ∈ ks → ¬ a ∈ S → msr ks (S ++ [a]) < msr ks S
  | [], h, _ => absurd h List.not_mem_nil
  | k :: ks, h, hn => by
    have le := msr_le a S ks
    by_cases e : a = k
    · subst e
      unfold msr at le ⊢
      rw [List.filter_cons, List.filter_cons, decide_eq_false hn, decide_eq_true (List.mem_append_right S List.mem_cons_self), if_pos (show (!false) = true from rfl), if_neg (show ¬ (!true) = true from Bool.false_ne_true), List.length_cons]
      omega
    · have hk : a ∈ ks := (List.mem_cons.mp h).resolve_left e
      have ih := msr_lt hk hn
      unfold msr at ih ⊢
      rw [List.filter_cons, List.filter_cons]
      by_cases h : k ∈ S
      · rw [decide_eq_true h, decide_eq_true (List.mem_append_left [a] h)]
        exact ih
      · rw [decide_eq_false h]
        split
        · rw [if_pos (show (!false) = true from rfl), List.length_cons, List.length_cons]
          omega
        · rw [if_pos (show (!false) = true from rfl), List.length_cons]
          omega
/-- the road from a to e over the keys, behind those that are gone -/
def roadF (ks : List Int) (M : Int → Int) (e a : Int) (r : List Int) : Option (List Int) :=
  if a = e then some r else if h : a ∈ ks ∧ ¬ a ∈ r then roadF ks M e (M a) (r ++ [a]) else none
termination_by msr ks r
decreasing_by exact msr_lt h.1 h.2
/-- all that is come to from a, behind those that are met -/
def reachF (ks : List Int) (M : Int → Int) (a : Int) (S : List Int) : List Int :=
  if h : a ∈ ks ∧ ¬ a ∈ S then reachF ks M (M a) (S ++ [a]) else S
termination_by msr ks S
decreasing_by exact msr_lt h.1 h.2
theorem roadF_end {ks : List Int} {M : Int → Int} {e a : Int} {r : List Int} (h : a = e) : roadF ks M e a r = some r := by
  rw [roadF, if_pos h]
theorem roadF_on {ks : List Int} {M : Int → Int} {e a : Int} {r : List Int} (h : ¬ a = e) (h1 : a ∈ ks) (h2 : ¬ a ∈ r) : roadF ks M e a r = roadF ks M e (M a) (r ++ [a]) := by
  rw [roadF, if_neg h, dif_pos ⟨h1, h2⟩]
theorem roadF_no {ks : List Int} {M : Int → Int} {e a : Int} {r : List Int} (h : ¬ a = e) (h1 : ¬ (a ∈ ks ∧ ¬ a ∈ r)) : roadF ks M e a r = none := by
  rw [roadF, if_neg h, dif_neg h1]
theorem reachF_on {ks : List Int} {M : Int → Int} {a : Int} {S : List Int} (h1 : a ∈ ks) (h2 : ¬ a ∈ S) : reachF ks M a S = reachF ks M (M a) (S ++ [a]) := by
  rw [reachF, dif_pos ⟨h1, h2⟩]
theorem reachF_no {ks : List Int} {M : Int → Int} {a : Int} {S : List Int} (h : ¬ (a ∈ ks ∧ ¬ a ∈ S)) : reachF ks M a S = S := by
  rw [reachF, dif_neg h]
/-- each once, and all of them keys -/
def Once (ks T : List Int) : Prop := T.Nodup ∧ ∀ x ∈ T, x ∈ ks
theorem Once.nil {ks : List Int} : Once ks [] := ⟨List.nodup_nil, fun x h => absurd h List.not_mem_nil⟩
theorem Once.snoc {ks T : List Int} {a : Int} (h : Once ks T) (h1 : a ∈ ks) (h2 : ¬ a ∈ T) : Once ks (T ++ [a]) := by
  refine ⟨List.nodup_append.mpr ⟨h.1, by simp, fun x hx y hy => ?_⟩, fun x hx => ?_⟩
  · rw [List.mem_singleton.mp hy]
    intro e
    rw [e] at hx
    exact h2 hx
  · rcases List.mem_append.mp hx with hx | hx
    · exact h.2 x hx
    · rw [List.mem_singleton.mp hx]
      exact h1
theorem once_len : ∀ {T ks : List Int}, Once ks T → T.length ≤ ks.length
  | [], _, _ => Nat.zero_le _
  | t :: T, ks, h => by
    have hc := List.nodup_cons.mp h.1
    have hm : t ∈ ks := h.2 t List.mem_cons_self
    have ih : T.length ≤ (ks.erase t).length := once_len ⟨hc.2, fun x hx => (List.mem_erase_of_ne (fun e => hc.1 (by rw [← e]; exact hx))).mpr (h.2 x (List.mem_cons_of_mem _ hx))⟩
    rw [List.length_erase_of_mem hm] at ih
    have pos : 0 < ks.length := List.length_pos_of_mem hm
    rw [List.length_cons]
    omega
theorem roadF_once {ks : List Int} {M : Int → Int} {e : Int} (a : Int) (r : List Int) {T : List Int} (h : Once ks r) (q : roadF ks M e a r = some T) : Once ks T := by
  by_cases h1 : a = e
  · rw [roadF_end h1] at q
    cases q
    exact h
  · by_cases h2 : a ∈ ks ∧ ¬ a ∈ r
    · rw [roadF_on h1 h2.1 h2.2] at q
      exact roadF_once (M a) (r ++ [a]) (h.snoc h2.1 h2.2) q
    · rw [roadF_no h1 h2] at q
      cases q
termination_by msr ks r
decreasing_by exact msr_lt h2.1 h2.2
theorem reachF_once {ks : List Int} {M : Int → Int} (a : Int) (S : List Int) (h : Once ks S) : Once ks (reachF ks M a S) := by
  by_cases h2 : a ∈ ks ∧ ¬ a ∈ S
  · rw [reachF_on h2.1 h2.2]
    exact reachF_once (M a) (S ++ [a]) (h.snoc h2.1 h2.2)
  · rw [reachF_no h2]
    exact h
termination_by msr ks S
decreasing_by exact msr_lt h2.1 h2.2
theorem roadF_sub {ks : List Int} {M : Int → Int} {e : Int} (a : Int) (r : List Int) {T : List Int} (q : roadF ks M e a r = some T) : ∀ x ∈ r, x ∈ T := by
  by_cases h1 : a = e
  · rw [roadF_end h1] at q
    cases q
    exact fun x h => h
  · by_cases h2 : a ∈ ks ∧ ¬ a ∈ r
    · rw [roadF_on h1 h2.1 h2.2] at q
      exact fun x h => roadF_sub (M a) (r ++ [a]) q x (List.mem_append_left _ h)
    · rw [roadF_no h1 h2] at q
      cases q
termination_by msr ks r
decreasing_by exact msr_lt h2.1 h2.2
def freeOf (S T : List Int) : Bool := T.all fun x => !decide (x ∈ S)
/-- a road behind others is the road by itself, if it meets none of them -/
theorem roadF_both {ks : List Int} {M : Int → Int} {e : Int} (S : List Int) (a : Int) (r : List Int) (hd : freeOf S r = true) :
    roadF ks M e a (S ++ r) = (roadF ks M e a r).bind fun T => if freeOf S T = true then some (S ++ T) else none := by
  by_cases h1 : a = e
  · rw [roadF_end h1, roadF_end h1, Option.bind_some, if_pos hd]
  · by_cases h2 : a ∈ ks ∧ ¬ a ∈ r
    · rw [roadF_on h1 h2.1 h2.2]
      by_cases h3 : a ∈ S
      · rw [roadF_no h1 (fun q => q.2 (List.mem_append_left _ h3))]
        cases q : roadF ks M e (M a) (r ++ [a]) with
        | none => rfl
        | some T =>
          have hm := roadF_sub (M a) (r ++ [a]) q a (List.mem_append_right _ List.mem_cons_self)
          rw [Option.bind_some, if_neg]
          intro z
          have := List.all_eq_true.mp z a hm
          rw [decide_eq_true h3] at this
          cases this
      · have hd2 : freeOf S (r ++ [a]) = true := by
          unfold freeOf at hd ⊢
          rw [List.all_append, hd, List.all_cons, decide_eq_false h3]
          rfl
        rw [roadF_on h1 h2.1 (fun q => (List.mem_append.mp q).elim h3 h2.2), List.append_assoc]
        exact roadF_both S (M a) (r ++ [a]) hd2
    · rw [roadF_no h1 h2, roadF_no h1 (fun q => h2 ⟨q.1, fun z => q.2 (List.mem_append_right _ z)⟩)]
      rfl
termination_by msr ks r
decreasing_by exact msr_lt h2.1 h2.2
abbrev Row := Str × Str × Str
section
variable (ks : List Int) (M W : Int → Int) (w : Str → Int)
/-- the program's part, behind those that are taken -/
def partP (S : List Int) (r : Row) : Option (List Int) :=
  if r.1 = "cell" then (if w r.2.1 ∈ ks ∧ ¬ w r.2.1 ∈ S ∧ M (w r.2.1) = w r.2.2 then some (S ++ [w r.2.1]) else none) else roadF ks M (w r.2.2) (w r.2.1) S
/-- the road of a part by itself -/
def partR (r : Row) : Option (List Int) :=
  if r.1 = "cell" then (if w r.2.1 ∈ ks ∧ M (w r.2.1) = w r.2.2 then some [w r.2.1] else none) else roadF ks M (w r.2.2) (w r.2.1) []
def partL (S : List Int) (r : Row) : Option (List Int) := (partR ks M w r).bind fun T => if freeOf S T = true then some (S ++ T) else none
theorem part_eq (S : List Int) (r : Row) : partP ks M w S r = partL ks M w S r := by
  unfold partP partL partR
  by_cases hc : r.1 = "cell"
  · rw [if_pos hc, if_pos hc]
    by_cases h1 : w r.2.1 ∈ ks ∧ M (w r.2.1) = w r.2.2
    · rw [if_pos h1, Option.bind_some]
      by_cases h2 : w r.2.1 ∈ S
      · rw [if_neg (fun q => q.2.1 h2), if_neg]
        intro z
        have := List.all_eq_true.mp z _ List.mem_cons_self
        rw [decide_eq_true h2] at this
        cases this
      · rw [if_pos ⟨h1.1, h2, h1.2⟩, if_pos]
        unfold freeOf
        rw [List.all_cons, decide_eq_false h2]
        rfl
    · rw [if_neg h1, if_neg (fun q => h1 ⟨q.1, q.2.2⟩)]
      rfl
  · rw [if_neg hc, if_neg hc]
    have := roadF_both (ks := ks) (M := M) (e := w r.2.2) S (w r.2.1) [] rfl
    rw [List.append_nil] at this
    exact this
def partsF (S : List Int) : List Row → Option (List Int)
  | [] => some S
  | r :: rs => (partP ks M w S r).bind fun T => partsF T rs
theorem partP_once {S T : List Int} {r : Row} (h : Once ks S) (q : partP ks M w S r = some T) : Once ks T := by
  unfold partP at q
  by_cases hc : r.1 = "cell"
  · rw [if_pos hc] at q
    by_cases h1 : w r.2.1 ∈ ks ∧ ¬ w r.2.1 ∈ S ∧ M (w r.2.1) = w r.2.2
    · rw [if_pos h1] at q
      cases q
      exact h.snoc h1.1 h1.2.1
    · rw [if_neg h1] at q
      cases q
  · rw [if_neg hc] at q
    exact roadF_once _ _ h q
theorem partsF_once : ∀ (rs : List Row) {S T : List Int}, Once ks S → partsF ks M w S rs = some T → Once ks T
  | [], S, T, h, q => by
    cases q
    exact h
  | r :: rs, S, T, h, q => by
    rw [partsF] at q
    cases e : partP ks M w S r with
    | none =>
      rw [e] at q
      cases q
    | some S2 =>
      rw [e, Option.bind_some] at q
      exact partsF_once rs (partP_once ks M w h e) q
/-- one look -/
def lookF (r : Row) : Bool := decide (w r.2.1 = w r.2.2) == decide (r.1 = "is")
def looksF (rs : List Row) : Bool := rs.all (lookF w)
def takenF (lk pt : List Row) : Option (List Int) := if looksF w lk = true then partsF ks M w [] pt else none
end
theorem takenF_once {ks : List Int} {M : Int → Int} {w : Str → Int} {lk pt : List Row} {T : List Int} (q : takenF ks M w lk pt = some T) : Once ks T := by
  unfold takenF at q
  split at q
  · exact partsF_once ks M w pt Once.nil q
  · cases q
/-- heaps and stores as lists -/
abbrev Hl := List (Int × Int)
abbrev Sl := List (Str × Int)
def keysH (hp : Hl) : List Int := hp.map (·.1)
def getH (hp : Hl) (k : Int) : Option Int := (hp.find? fun c => decide (c.1 = k)).map (·.2)
def getS (st : Sl) (t : Str) : Option Int := (st.find? fun c => decide (c.1 = t)).map (·.2)
def mapH (hp : Hl) (k : Int) : Int := (getH hp k).getD 0
def worth (st : Sl) (t : Str) : Option Int := if t = "nil" then some 0 else getS st t
def wF (st : Sl) (t : Str) : Int := (worth st t).getD 0
def Kn (st : Sl) (t : Str) : Prop := ∃ n, worth st t = some n
theorem Kn.eq {st : Sl} {t : Str} (h : Kn st t) : worth st t = some (wF st t) := by
  obtain ⟨n, e⟩ := h
  unfold wF
  rw [e]
  rfl
theorem getH_mem {k : Int} : ∀ {hp : Hl}, k ∈ keysH hp ↔ ∃ n, getH hp k = some n
  | [] => ⟨fun h => absurd h List.not_mem_nil, fun ⟨n, h⟩ => by cases h⟩
  | c :: hp => by
    by_cases e : c.1 = k
    · refine ⟨fun _ => ⟨c.2, ?_⟩, fun _ => ?_⟩
      · unfold getH
        rw [List.find?_cons, decide_eq_true e]
        rfl
      · show k ∈ c.1 :: keysH hp
        rw [e]
        exact List.mem_cons_self
    · have e2 : getH (c :: hp) k = getH hp k := by
        unfold getH
        rw [List.find?_cons, decide_eq_false e]
      rw [e2]
      refine ⟨fun h => getH_mem.mp ((List.mem_cons.mp h).resolve_left fun z => e z.symm), fun h => List.mem_cons_of_mem _ (getH_mem.mpr h)⟩
theorem getH_in {hp : Hl} {k : Int} (h : k ∈ keysH hp) : getH hp k = some (mapH hp k) := by
  obtain ⟨n, e⟩ := getH_mem.mp h
  unfold mapH
  rw [e]
  rfl
theorem getH_out {hp : Hl} {k : Int} (h : ¬ k ∈ keysH hp) : getH hp k = none := by
  cases e : getH hp k with
  | none => rfl
  | some n => exact absurd (getH_mem.mpr ⟨n, e⟩) h
/-- as many cells as keys are told -/
theorem filter_len {hp : Hl} (hn : (keysH hp).Nodup) {T : List Int} (h : Once (keysH hp) T) : (hp.filter fun c => decide (c.1 ∈ T)).length = T.length := by
  have p : List.Perm ((hp.filter fun c => decide (c.1 ∈ T)).map (·.1)) T := by
    refine (List.perm_ext_iff_of_nodup ?_ h.1).mpr fun x => ?_
    · exact hn.sublist (List.Sublist.map _ List.filter_sublist)
    · rw [List.mem_map]
      constructor
      · rintro ⟨c, hc, rfl⟩
        exact of_decide_eq_true (List.mem_filter.mp hc).2
      · intro hx
        obtain ⟨c, hc, e⟩ := List.mem_map.mp (h.2 x hx)
        exact ⟨c, List.mem_filter.mpr ⟨hc, decide_eq_true (by rw [e]; exact hx)⟩, e⟩
  have := p.length_eq
  rw [List.length_map] at this
  exact this
/-- what is due of part_of, of holds, of lost -/
def pairD (c : Int × Int) : PyData := .tuple [.int c.1, .int c.2]
def spairD (c : Str × Int) : PyData := .tuple [.str c.1, .int c.2]
def lrowD (r : Row) : PyData := .tuple [.str r.1, .str r.2.1, .str r.2.2]
def heapD (hp : Hl) : PyData := .tuple (hp.map pairD)
def storeD (st : Sl) : PyData := .tuple (st.map spairD)
def lclauseD (lk pt : List Row) : PyData := .tuple [.tuple (lk.map lrowD), .tuple (pt.map lrowD)]
abbrev takenS (st : Sl) (hp : Hl) (lk pt : List Row) : Option (List Int) := takenF (keysH hp) (mapH hp) (wF st) lk pt
def dueP (st : Sl) (hp : Hl) (lk pt : List Row) : PyData := match takenS st hp lk pt with
  | none => .none
  | some T => heapD (hp.filter fun c => decide (c.1 ∈ T))
def wholeP (st : Sl) (hp : Hl) (lk pt : List Row) : Bool := match takenS st hp lk pt with
  | none => false
  | some T => decide (T.length = hp.length)
def metP (hp : Hl) : Sl → List Int → List Int
  | [], S => S
  | c :: st, S => metP hp st (reachF (keysH hp) (mapH hp) c.2 S)
def lostP (st : Sl) (hp : Hl) : PyData := .tuple ((hp.filter fun c => !decide (c.1 ∈ metP hp st [])).map fun c => .int c.1)
theorem metP_once {hp : Hl} : ∀ (st : Sl) {S : List Int}, Once (keysH hp) S → Once (keysH hp) (metP hp st S)
  | [], S, h => h
  | c :: st, S, h => metP_once st (reachF_once c.2 S h)
end L2.Hx

/-! Rings and long lists: dicts of stores, of heaps, of what is taken; the program's looks and lists. -/
namespace L2.Hx
open PySem PySem.Spec PyProof.Rows
def stK (st : Sl) : List (Key × V) := st.map fun c => (.inr c.1, .int c.2)
def hpK (hp : Hl) : List (Key × V) := hp.map fun c => (.inl c.1, .int c.2)
def valK (st : Sl) : List (Key × V) := putK (stK st) (.inr "nil") (.int 0)
def marks (T : List Int) : List (Key × V) := T.map fun k => (.inl k, .bl true)
/-- a plain tuple of these pairs -/
def PrT (K : PySem.W.Frag) (H : Hp) (a : Addr) (kvs : List (Key × V)) : Prop := ∃ ps : List Addr, PlT H a (ps.map V.ref) ∧ Paired (fun p kv => SqT K H p [kV kv.1, kv.2]) ps kvs
theorem PrT.same {K : PySem.W.Frag} {G H : Hp} {a : Addr} {kvs : List (Key × V)} (s : Same G H) (h : PrT K G a kvs) : PrT K H a kvs := by
  obtain ⟨ps, h1, h2⟩ := h
  exact ⟨ps, h1.same s, L2.Paired.mapP h2 fun _ _ q => sameT s q⟩
theorem valV_st (t : Str) : ∀ st : Sl, valV (stK st) (.inr t) = (getS st t).map V.int
  | [] => rfl
  | c :: st => by
    have ih := valV_st t st
    by_cases e : c.1 = t
    · show valV ((.inr c.1, .int c.2) :: stK st) (.inr t) = _
      rw [valV_pos (by rw [e])]
      unfold getS
      rw [List.find?_cons, decide_eq_true e]
      rfl
    · show valV ((.inr c.1, .int c.2) :: stK st) (.inr t) = _
      rw [valV_neg (fun q => e (Sum.inr.inj q)), ih]
      unfold getS
      rw [List.find?_cons, decide_eq_false e]
theorem valV_hp (k : Int) : ∀ hp : Hl, valV (hpK hp) (.inl k) = (getH hp k).map V.int
  | [] => rfl
  | c :: hp => by
    have ih := valV_hp k hp
    by_cases e : c.1 = k
    · show valV ((.inl c.1, .int c.2) :: hpK hp) (.inl k) = _
      rw [valV_pos (by rw [e])]
      unfold getH
      rw [List.find?_cons, decide_eq_true e]
      rfl
    · show valV ((.inl c.1, .int c.2) :: hpK hp) (.inl k) = _
      rw [valV_neg (fun q => e (Sum.inl.inj q)), ih]
      unfold getH
      rw [List.find?_cons, decide_eq_false e]
theorem valV_val (st : Sl) (t : Str) : valV (valK st) (.inr t) = (worth st t).map V.int := by
  unfold valK worth
  rw [valV_put]
  by_cases h : t = "nil"
  · rw [if_pos (by rw [h]), if_pos h]
    rfl
  · rw [if_neg (fun q => h (Sum.inr.inj q)), if_neg h]
    exact valV_st t st
theorem marks_get (k : Int) : ∀ T : List Int, valV (marks T) (.inl k) = if k ∈ T then some (.bl true) else none
  | [] => rfl
  | c :: T => by
    have ih := marks_get k T
    by_cases e : c = k
    · show valV ((.inl c, .bl true) :: marks T) (.inl k) = _
      rw [valV_pos (by rw [e]), if_pos (by rw [e]; exact List.mem_cons_self)]
    · show valV ((.inl c, .bl true) :: marks T) (.inl k) = _
      rw [valV_neg (fun q => e (Sum.inl.inj q)), ih]
      by_cases h : k ∈ T
      · rw [if_pos h, if_pos (List.mem_cons_of_mem _ h)]
      · rw [if_neg h, if_neg (fun q => (List.mem_cons.mp q).elim (fun z => e z.symm) h)]
theorem marks_put {k : Int} {T : List Int} (h : ¬ k ∈ T) : putK (marks T) (.inl k) (.bl true) = marks (T ++ [k]) := by
  rw [putK_new _ (by rw [marks_get, if_neg h])]
  unfold marks
  rw [List.map_append]
  rfl
theorem valV_none {kvs : List (Key × V)} {k : Key} (h : ¬ k ∈ kvs.map (·.1)) : valV kvs k = none := by
  cases e : valV kvs k with
  | none => rfl
  | some v => exact absurd (valV_in e) h
theorem merge_on : ∀ (kvs acc : List (Key × V)), ((acc ++ kvs).map (·.1)).Nodup → mergeK acc kvs = acc ++ kvs
  | [], acc, _ => by
    rw [List.append_nil]
    rfl
  | c :: kvs, acc, h => by
    have e : acc ++ c :: kvs = (acc ++ [c]) ++ kvs := by rw [List.append_assoc]; rfl
    have hn : ¬ c.1 ∈ acc.map (·.1) := by
      rw [List.map_append, List.map_cons] at h
      have := (List.nodup_append.mp h).2.2
      exact fun q => this c.1 q c.1 List.mem_cons_self rfl
    show mergeK (putK acc c.1 c.2) kvs = _
    rw [putK_new _ (valV_none hn), e]
    rw [e] at h
    exact merge_on kvs (acc ++ [c]) h
theorem merge_nodup {kvs : List (Key × V)} (h : (kvs.map (·.1)).Nodup) : mergeK [] kvs = kvs := merge_on kvs [] h
def StOk (st : Sl) : Prop := (st.map (·.1)).Nodup ∧ st.length ≤ 1000
def HpOk (hp : Hl) : Prop := (keysH hp).Nodup ∧ hp.length ≤ 2000
theorem nodup_inl {ks : List Int} (h : ks.Nodup) : (ks.map fun k => (Sum.inl k : Key)).Nodup := by
  induction ks with
  | nil => exact List.nodup_nil
  | cons k ks ih =>
    have hc := List.nodup_cons.mp h
    rw [List.map_cons]
    refine List.nodup_cons.mpr ⟨fun q => ?_, ih hc.2⟩
    obtain ⟨x, hx, e⟩ := List.mem_map.mp q
    exact hc.1 (by rw [← Sum.inl.inj e]; exact hx)
theorem nodup_inr {ks : List Str} (h : ks.Nodup) : (ks.map fun k => (Sum.inr k : Key)).Nodup := by
  induction ks with
  | nil => exact List.nodup_nil
  | cons k ks ih =>
    have hc := List.nodup_cons.mp h
    rw [List.map_cons]
    refine List.nodup_cons.mpr ⟨fun q => ?_, ih hc.2⟩
    obtain ⟨x, hx, e⟩ := List.mem_map.mp q
    exact hc.1 (by rw [← Sum.inr.inj e]; exact hx)
theorem merge_st {st : Sl} (h : StOk st) : mergeK [] (stK st) = stK st := by
  refine merge_nodup ?_
  have := nodup_inr h.1
  rw [List.map_map] at this
  unfold stK
  rw [List.map_map]
  exact this
theorem merge_hp {hp : Hl} (h : HpOk hp) : mergeK [] (hpK hp) = hpK hp := by
  refine merge_nodup ?_
  have := nodup_inl h.1
  unfold keysH at this
  rw [List.map_map] at this
  unfold hpK
  rw [List.map_map]
  exact this
section
variable {H : Hp} {D : Addr}
theorem get_w {st : Sl} {t : Str} (hD : H D = some (.dK (valK st))) (h : Kn st t) : DGet H D (.str t) (some (.int (wF st t))) := by
  have := DGet.k (k := .inr t) hD
  rw [valV_val, h.eq] at this
  exact this
theorem get_h {hp : Hl} {k : Int} (hD : H D = some (.dK (hpK hp))) : DGet H D (.int k) ((getH hp k).map V.int) := by
  have := DGet.k (k := .inl k) hD
  rw [valV_hp] at this
  exact this
theorem get_hin {hp : Hl} {k : Int} (hD : H D = some (.dK (hpK hp))) (h : k ∈ keysH hp) : DGet H D (.int k) (some (.int (mapH hp k))) := by
  have := get_h (k := k) hD
  rw [getH_in h] at this
  exact this
theorem get_m {T : List Int} {k : Int} (hD : H D = some (.dK (marks T))) : DGet H D (.int k) (if k ∈ T then some (.bl true) else none) := by
  have := DGet.k (k := .inl k) hD
  rw [marks_get] at this
  exact this
theorem is_h {hp : Hl} {k : Int} : ((getH hp k).map V.int).isSome = decide (k ∈ keysH hp) := by
  by_cases h : k ∈ keysH hp
  · rw [getH_in h, decide_eq_true h]
    rfl
  · rw [getH_out h, decide_eq_false h]
    rfl
theorem is_m {T : List Int} {k : Int} : ((if k ∈ T then some (V.bl true) else none) : Option V).isSome = decide (k ∈ T) := by
  by_cases h : k ∈ T
  · rw [if_pos h, decide_eq_true h]
    rfl
  · rw [if_neg h, decide_eq_false h]
    rfl
theorem put_m {T : List Int} {k : Int} (hD : H D = some (.dK (marks T))) (h : ¬ k ∈ T) (hl : T.length < sizeLine) : DPut H D (.int k) (.bl true) (upd H D (.dK (marks (T ++ [k])))) := by
  have := DPut.k (k := .inl k) (v := .bl true) hD (by unfold marks; rw [List.length_map]; exact hl)
  rw [marks_put h] at this
  exact this
end
theorem iteD {c A B : Prop} [Decidable c] (h1 : c → A) (h2 : ¬ c → B) : if decide c = true then A else B := iteB (fun h => h1 (of_decide_eq_true h)) fun h => h2 (of_decide_eq_false h)
theorem iteND {c A B : Prop} [Decidable c] (h1 : ¬ c → A) (h2 : c → B) : if (!decide c) = true then A else B := iteNot (fun h => h1 (of_decide_eq_false h)) fun h => h2 (of_decide_eq_true h)
theorem int_ne {m n : Int} : (!decide (V.int m = V.int n)) = !decide (m = n) := by
  by_cases h : m = n
  · rw [h, decide_eq_true rfl, decide_eq_true rfl]
  · rw [decide_eq_false h, decide_eq_false fun q => h (vint q)]
theorem look_b {m n : Int} {x y : Str} : (!decide (V.bl (decide (V.int m = V.int n)) = V.bl (decide (V.str x = V.str y)))) = !(decide (m = n) == decide (x = y)) := by
  have e1 : decide (V.int m = V.int n) = decide (m = n) := by
    by_cases h : m = n
    · rw [h, decide_eq_true rfl, decide_eq_true rfl]
    · rw [decide_eq_false h]
      exact decide_eq_false fun q => h (vint q)
  have e2 : decide (V.str x = V.str y) = decide (x = y) := by
    by_cases h : x = y
    · rw [h, decide_eq_true rfl, decide_eq_true rfl]
    · rw [decide_eq_false h]
      exact decide_eq_false fun q => h (V.str.inj q)
  rw [e1, e2]
  cases decide (m = n) <;> cases decide (x = y) <;> rfl
theorem small2000 {n : Nat} (h : n ≤ 2000) : n < sizeLine := by
  have : 3000 ≤ sizeLine := by decide
  omega
/-- the dict of a store -/
def spVals (K : PySem.W.Frag) : Sp := fun vs H Q _ => ∃ a st, vs = [.ref a] ∧ PrT K H a (stK st) ∧ StOk st ∧ ∀ D H', Same H H' → H D = none → H' D = some (.dK (valK st)) → Q (.ref D) H'
def spLooks (K : PySem.W.Frag) : Sp := fun vs H Q _ => ∃ v D lk st, vs = [v, .ref D] ∧ Da K H v (.tuple (lk.map lrowD)) ∧ H D = some (.dK (valK st)) ∧ (∀ r ∈ lk, Kn st r.2.1 ∧ Kn st r.2.2) ∧ Q (.bl (looksF (wF st) lk)) H
def spTakes : Sp := fun vs H Q _ => ∃ a e L D hp S, vs = [.int a, .int e, .ref L, .ref D] ∧ H L = some (.dK (hpK hp)) ∧ H D = some (.dK (marks S)) ∧ L ≠ D ∧ HpOk hp ∧ Once (keysH hp) S ∧
  ∀ H', (∀ b o, b ≠ D → H b = some o → H' b = some o) → match roadF (keysH hp) (mapH hp) e a S with
    | none => Q (.bl false) H'
    | some T => H' D = some (.dK (marks T)) → Q (.bl true) H'
section
variable {P : Program} {w : World} {K : PySem.W.Frag} {mg : Str → Option Value} {base : Heap}
theorem D_values_of (T : Txt K mg) : Df P w K mg base 1 "values_of" ["store"] (spVals K) := by
  obtain ⟨f, fd, S⟩ := T.d_values_of
  refine Df.mk' (k := 0) S sc_values_of (fun vs H Q E h => ?_) (fun cdv A outer s H vs Q E hgd hr h => ?_)
  · obtain ⟨a, st, rfl, _⟩ := h
    rfl
  · obtain ⟨a, st, rfl, ⟨ps, pl, pr⟩, ok, k⟩ := h
    have hu := hu_of hr
    refine ⟨_, (pss_cons (ps_set (i := 1) sc_values_of.nd rfl (.inl rfl) (pe_callTy (call_dictPT rfl) (by rfl) T.b_dict (by decide +kernel) (pa_cons (pv 0) pa_nil)))
      (pss_cons (ps_dput hu (pv 1) pe_str pe_int rfl)
      (pss_one (ps_ret (pv 1))))), ?_⟩
    refine ⟨_, rfl, a, ps, stK st, rfl, pl, pr, fun D hD => ?_⟩
    rw [merge_st ok]
    dsimp only [gName, List.set]
    refine ⟨_, rfl, D, _, rfl, DPut.k (k := .inr "nil") upd_same (by unfold stK; rw [List.length_map]; exact small2000 (by have := ok.2; omega)), _, rfl, ?_⟩
    exact k D _ (sameOut (sameAdd hD) hD) hD upd_same
theorem D_looks_hold (T : Txt K mg) : Df P w K mg base 1 "looks_hold" ["looks", "values"] (spLooks K) := by
  obtain ⟨f, fd, S⟩ := T.d_looks_hold
  refine Df.mk' (k := 0) S sc_looks_hold (fun vs H Q E h => ?_) (fun cdv A outer s H vs Q E hgd hr h => ?_)
  · obtain ⟨v, D, lk, st, rfl, _⟩ := h
    rfl
  · obtain ⟨v, D, lk, st, rfl, hd, hD, kn, k⟩ := h
    have hu := hu_of hr
    obtain ⟨a, xs, rfl, hT, hA⟩ := hd.tupI
    have hlen := hA.length
    rw [List.length_map] at hlen
    refine ⟨_, (pss_cons (ps_for PassesOwn.never rfl (pi_tup (pv 0)) (pg_tup rfl (pgs_cons (pg_name (i := 2) sc_looks_hold.nd rfl (.inl rfl)) (pgs_cons (pg_name (i := 3) sc_looks_hold.nd rfl (.inl rfl)) (pgs_cons (pg_name (i := 4) sc_looks_hold.nd rfl (.inl rfl)) pgs_nil))))
      (pss_one (ps_if (pt_cmpR op_ne (pe_cmpR op_eq (pe_dget hu (pv 1) (pv 3) (fun _ _ => rfl)) (pe_dget hu (pv 1) (pv 4) (fun _ _ => rfl)) (nomark _)) (pe_cmpR op_eq (pv 2) pe_str (nomark _)) (nomark _)) (pss_one (ps_ret pe_bl)) pss_nil)))
      (pss_one (ps_ret pe_bl))), ?_⟩
    refine ⟨_, rfl, a, rfl, ⟨_, hT⟩, for_tup (K := K) (a := a) (xs := xs) (fun i σ H1 => ∃ o2 o3 o4, σ = [some (.ref a), some (.ref D), o2, o3, o4] ∧ H1 = H ∧ looksF (wF st) lk = looksF (wF st) (lk.drop i)) ⟨none, none, none, rfl, rfl, rfl⟩ (fun i σ H1 _ ⟨_, _, _, _, e, _⟩ => by rw [e]; exact hT) ?_ ?_⟩
    · rintro i x σ H1 hx ⟨o2, o3, o4, rfl, rfl, p2⟩
      obtain ⟨d, hd1, hd2⟩ := hA.get hx
      rw [List.getElem?_map] at hd1
      obtain ⟨r, hr1, rfl⟩ := Option.map_eq_some_iff.mp hd1
      obtain ⟨t, ys, rfl, tT, tA⟩ := hd2.tupI
      have hdrop : lk.drop i = r :: lk.drop (i + 1) := by
        obtain ⟨hi, e⟩ := List.getElem?_eq_some_iff.mp hr1
        rw [List.drop_eq_getElem_cons hi, e]
      rw [hdrop] at p2
      obtain ⟨k1, k2⟩ := kn r (List.mem_of_getElem? hr1)
      cases tA with
      | cons c1 tA =>
        cases tA with
        | cons c2 tA =>
          cases tA with
          | cons c3 tA =>
            cases tA
            cases c1.strI
            cases c2.strI
            cases c3.strI
            refine ⟨t, _, rfl, tT, rfl, _, _, rfl, _, _, rfl, _, _, rfl, rfl, ?_⟩
            refine ⟨_, rfl, _, rfl, D, _, rfl, get_w hD k1, _, rfl, _, rfl, D, _, rfl, get_w hD k2, rfl, _, rfl, rfl, rfl, _, rfl, ?_⟩
            rw [look_b]
            have e2 : looksF (wF st) (r :: lk.drop (i + 1)) = (lookF (wF st) r && looksF (wF st) (lk.drop (i + 1))) := rfl
            refine iteNot (fun hb => ?_) (fun hb => ?_)
            · have hb : lookF (wF st) r = false := hb
              rw [p2, e2, hb, Bool.false_and] at k
              exact k
            · have hb : lookF (wF st) r = true := hb
              rw [e2, hb, Bool.true_and] at p2
              exact ⟨_, _, _, rfl, rfl, p2⟩
    · rintro σ H1 ⟨o2, o3, o4, rfl, rfl, p2⟩
      rw [hlen, List.drop_length] at p2
      rw [p2] at k
      exact k
theorem D_takes_list (T : Txt K mg) : Df P w K mg base 1 "takes_list" ["at", "end", "leads", "took"] spTakes := by
  obtain ⟨f, fd, S⟩ := T.d_takes_list
  refine Df.mk' (k := 0) S sc_takes_list (fun vs H Q E h => ?_) (fun cdv A outer s H vs Q E hgd hr h => ?_)
  · obtain ⟨a, e, L, D, hp, S0, rfl, _⟩ := h
    rfl
  · obtain ⟨a0, e, L, D, hp, S0, rfl, hL, hD, nLD, ok, on, k⟩ := h
    have hu := hu_of hr
    refine ⟨_, (pss_cons (ps_while PassesOwn.never (pt_cmpR op_ne (pv 0) (pv 1) (nomark _)) (pss_cons (ps_if (PW.pt (pw_or (pt_cmp (pc_dnotin hu (pv 0) (pv 2))) (pw_or1 (pt_cmp (pc_din hu (pv 0) (pv 3)))))) (pss_one (ps_ret pe_bl)) pss_nil)
      (pss_cons (ps_dput hu (pv 3) (pv 0) pe_bl rfl)
      (pss_one (ps_set (i := 0) sc_takes_list.nd rfl (.inl rfl) (pe_dget hu (pv 2) (pv 0) (fun _ _ => rfl)))))))
      (pss_one (ps_ret pe_bl))), ?_⟩
    refine ⟨fun m σ H3 => ∃ a T, σ = [some (.int a), some (.int e), some (.ref L), some (.ref D)] ∧ m = msr (keysH hp) T ∧ Once (keysH hp) T ∧ H3 D = some (.dK (marks T)) ∧ (∀ b o, b ≠ D → H b = some o → H3 b = some o) ∧ roadF (keysH hp) (mapH hp) e a0 S0 = roadF (keysH hp) (mapH hp) e a T,
      ⟨_, a0, S0, rfl, rfl, on, hD, fun b o _ q => q, rfl⟩, ?_⟩
    rintro m σ H3 ⟨a, T, rfl, rfl, on3, hD3, kp, rd⟩
    have hL3 := kp L _ nLD hL
    rw [rd] at k
    refine ⟨_, rfl, _, rfl, rfl, _, rfl, ?_⟩
    rw [int_ne]
    refine iteND (fun hne => ?_) (fun heq => ?_)
    · refine ⟨fun σ H4 => ∃ a T2, σ = [some (.int a), some (.int e), some (.ref L), some (.ref D)] ∧ msr (keysH hp) T2 < msr (keysH hp) T ∧ Once (keysH hp) T2 ∧ H4 D = some (.dK (marks T2)) ∧ (∀ b o, b ≠ D → H b = some o → H4 b = some o) ∧ roadF (keysH hp) (mapH hp) e a0 S0 = roadF (keysH hp) (mapH hp) e a T2,
        fun σ H4 ⟨a, T2, e1, lt, r⟩ => ⟨_, lt, a, T2, e1, rfl, r⟩, ?_⟩
      refine ⟨_, rfl, _, rfl, L, _, rfl, get_h hL3, _, rfl, ?_⟩
      rw [is_h]
      have no : ¬ (a ∈ keysH hp ∧ ¬ a ∈ T) → Q (.bl false) H3 := fun hn => by
        have := k H3 kp
        rw [roadF_no hne hn] at this
        exact this
      refine iteND (fun h1 => ?_) (fun h1 => ?_)
      · exact no fun q => h1 q.1
      · refine ⟨_, rfl, _, rfl, D, _, rfl, get_m hD3, _, rfl, ?_⟩
        rw [is_m]
        refine iteD (fun h2 => ?_) (fun h2 => ?_)
        · exact no fun q => q.2 h2
        · have lT : T.length < sizeLine := by
            have := once_len on3
            have hl := ok.2
            unfold keysH at this
            rw [List.length_map] at this
            exact small2000 (by omega)
          refine ⟨_, rfl, _, rfl, D, _, rfl, put_m hD3 h2 lT, ?_⟩
          have hL4 : (upd H3 D (.dK (marks (T ++ [a])))) L = some (.dK (hpK hp)) := by rw [upd_ne nLD]; exact hL3
          refine ⟨_, rfl, _, rfl, L, _, rfl, get_hin hL4 h1, ?_⟩
          refine ⟨_, _, rfl, msr_lt h1 h2, on3.snoc h1 h2, upd_same, fun b o nb q => by rw [upd_ne nb]; exact kp b o nb q, ?_⟩
          rw [rd, roadF_on hne h1 h2]
    · have := k H3 kp
      rw [roadF_end heq] at this
      exact this hD3
end
end L2.Hx

/-! Rings and long lists: the program's clauses. -/
namespace L2.Hx
open PySem PySem.Spec PyProof.Rows
theorem str_eq {x y : Str} : decide (V.str x = V.str y) = decide (x = y) := by
  by_cases h : x = y
  · rw [h, decide_eq_true rfl, decide_eq_true rfl]
  · rw [decide_eq_false h]
    exact decide_eq_false fun q => h (V.str.inj q)
theorem int_eq {m n : Int} : decide (V.int m = V.int n) = decide (m = n) := by
  by_cases h : m = n
  · rw [h, decide_eq_true rfl, decide_eq_true rfl]
  · rw [decide_eq_false h]
    exact decide_eq_false fun q => h (vint q)
theorem drop_row {α : Type} {l : List α} {i : Nat} {x : α} (h : l[i]? = some x) : l.drop i = x :: l.drop (i + 1) := by
  obtain ⟨hi, e⟩ := List.getElem?_eq_some_iff.mp h
  rw [List.drop_eq_getElem_cons hi, e]
/-- a row of a clause, told by its address -/
theorem row_at {K : PySem.W.Frag} {H : Hp} {v : V} {r : Row} (h : Da K H v (lrowD r)) : ∃ t, v = .ref t ∧ SqT K H t [.str r.1, .str r.2.1, .str r.2.2] := by
  obtain ⟨t, ys, rfl, tT, tA⟩ := h.tupI
  cases tA with
  | cons c1 tA =>
    cases tA with
    | cons c2 tA =>
      cases tA with
      | cons c3 tA =>
        cases tA
        cases c1.strI
        cases c2.strI
        cases c3.strI
        exact ⟨t, rfl, tT⟩
theorem rows_at {K : PySem.W.Frag} {H : Hp} {v : V} {rs : List Row} (h : Da K H v (.tuple (rs.map lrowD))) : ∃ a xs, v = .ref a ∧ SqT K H a xs ∧ xs.length = rs.length ∧ ∀ (i : Nat) (x : V), xs[i]? = some x → ∃ r t, rs[i]? = some r ∧ x = .ref t ∧ SqT K H t [.str r.1, .str r.2.1, .str r.2.2] := by
  obtain ⟨a, xs, rfl, hT, hA⟩ := h.tupI
  refine ⟨a, xs, rfl, hT, by rw [hA.length, List.length_map], fun i x hx => ?_⟩
  obtain ⟨d, hd1, hd2⟩ := hA.get hx
  rw [List.getElem?_map] at hd1
  obtain ⟨r, hr1, rfl⟩ := Option.map_eq_some_iff.mp hd1
  obtain ⟨t, e, tT⟩ := row_at hd2
  exact ⟨r, t, hr1, e, tT⟩
def spTaken (K : PySem.W.Frag) : Sp := fun vs H Q _ => ∃ v Vd L lk pt st hp, vs = [v, .ref Vd, .ref L, .ref L] ∧ Da K H v (lclauseD lk pt) ∧ H Vd = some (.dK (valK st)) ∧ H L = some (.dK (hpK hp)) ∧ HpOk hp ∧ (∀ r ∈ lk, Kn st r.2.1 ∧ Kn st r.2.2) ∧ (∀ r ∈ pt, Kn st r.2.1 ∧ Kn st r.2.2) ∧
  match takenS st hp lk pt with
    | none => ∀ H', Same H H' → Q .non H'
    | some T => ∀ D H', Same H H' → H D = none → H' D = some (.dK (marks T)) → Q (.ref D) H'
section
variable {P : Program} {w : World} {K : PySem.W.Frag} {mg : Str → Option Value} {base : Heap}
theorem D_taken (T : Txt K mg) : Df P w K mg base 2 "taken" ["clause", "values", "leads", "singles"] (spTaken K) := by
  have D_looks_hold := D_looks_hold (P := P) (w := w) (base := base) T
  have D_takes_list := D_takes_list (P := P) (w := w) (base := base) T
  obtain ⟨f, fd, S⟩ := T.d_taken
  refine Df.mk' (k := 1) S sc_taken (fun vs H Q E h => ?_) (fun cdv A outer s H vs Q E hgd hr h => ?_)
  · obtain ⟨v, Vd, L, lk, pt, st, hp, rfl, _⟩ := h
    rfl
  · obtain ⟨v, Vd, L, lk, pt, st, hp, rfl, hd, hV, hL, ok, knl, knp, k⟩ := h
    have hu := hu_of hr
    have kno : takenS st hp lk pt = none → ∀ H', Same H H' → Q .non H' := fun e => by
      rw [e] at k
      exact k
    have kyes : ∀ T, takenS st hp lk pt = some T → ∀ D H', Same H H' → H D = none → H' D = some (.dK (marks T)) → Q (.ref D) H' := fun T e => by
      rw [e] at k
      exact k
    obtain ⟨a, xs, rfl, hT, hA⟩ := hd.tupI
    cases hA with
    | cons h1 hA =>
      cases hA with
      | cons h2 hA =>
        cases hA
        rename_i vl vp
        refine ⟨_, (pss_cons (ps_asg (pv 0) (pg_tup rfl (pgs_cons (pg_name (i := 4) sc_taken.nd rfl (.inl rfl)) (pgs_cons (pg_name (i := 5) sc_taken.nd rfl (.inl rfl)) pgs_nil))))
      (pss_cons (ps_if (pt_not (pt_val (pe_d D_looks_hold hgd hr (pa_cons (pv 4) (pa_cons (pv 1) pa_nil))))) (pss_one (ps_ret pe_non)) pss_nil)
      (pss_cons (ps_set (i := 6) sc_taken.nd rfl (.inl rfl) pe_dnewK)
      (pss_cons (ps_for PassesOwn.never rfl (pi_tup (pv 5)) (pg_tup rfl (pgs_cons (pg_name (i := 7) sc_taken.nd rfl (.inl rfl)) (pgs_cons (pg_name (i := 8) sc_taken.nd rfl (.inl rfl)) (pgs_cons (pg_name (i := 9) sc_taken.nd rfl (.inl rfl)) pgs_nil))))
      (pss_cons (ps_par (i := 10) (j := 11) (by rfl) sc_taken.nd rfl rfl (by decide) rfl rfl (pa_cons (pe_dget hu (pv 1) (pv 8) (fun _ _ => rfl)) (pa_cons (pe_dget hu (pv 1) (pv 9) (fun _ _ => rfl)) pa_nil)) (by rfl))
      (pss_one (ps_if (pt_cmpR op_eq (pv 7) pe_str (nomark _)) (pss_cons (ps_if (PW.pt (pw_or (pt_cmp (pc_dnotin hu (pv 10) (pv 3))) (pw_or (pt_cmp (pc_din hu (pv 10) (pv 6))) (pw_or1 (pt_cmpR op_ne (pe_dget hu (pv 2) (pv 10) (fun _ _ => rfl)) (pv 11) (nomark _)))))) (pss_one (ps_ret pe_non)) pss_nil)
      (pss_one (ps_dput hu (pv 6) (pv 10) pe_bl rfl))) (pss_one (ps_if (pt_not (pt_val (pe_d D_takes_list hgd hr (pa_cons (pv 10) (pa_cons (pv 11) (pa_cons (pv 2) (pa_cons (pv 6) pa_nil))))))) (pss_one (ps_ret pe_non)) pss_nil))))))
      (pss_one (ps_ret (pv 6))))))), ?_⟩
        refine ⟨_, rfl, a, _, rfl, hT, rfl, _, _, rfl, _, _, rfl, rfl, ?_⟩
        dsimp only [gName, List.set]
        refine ⟨_, rfl, _, rfl, vl, Vd, lk, st, rfl, h1, hV, knl, _, rfl, iteNot (fun hl => ?_) (fun hl => ?_)⟩
        · exact kno (by unfold takenS takenF; rw [if_neg (by rw [hl]; exact Bool.false_ne_true)]) H (Same.refl H)
        · have tk : takenS st hp lk pt = partsF (keysH hp) (mapH hp) (wF st) [] pt := by unfold takenS takenF; rw [if_pos hl]
          rw [tk] at kno kyes
          refine fun D hD => ?_
          obtain ⟨b, ys, rfl, bT, bl, bA⟩ := rows_at h2
          dsimp only [gName, List.set]
          refine ⟨_, rfl, b, rfl, ⟨_, sameT (sameAdd hD) bT⟩, for_tup (K := K) (a := b) (xs := ys) (fun i σ H1 => ∃ o7 o8 o9 o10 o11 Tk, σ = [some (.ref a), some (.ref Vd), some (.ref L), some (.ref L), some vl, some (.ref b), some (.ref D), o7, o8, o9, o10, o11] ∧ Same H H1 ∧ H1 D = some (.dK (marks Tk)) ∧
              Once (keysH hp) Tk ∧ partsF (keysH hp) (mapH hp) (wF st) [] pt = partsF (keysH hp) (mapH hp) (wF st) Tk (pt.drop i))
            ⟨_, _, _, _, _, [], rfl, sameAdd hD, upd_same, Once.nil, rfl⟩ (fun i σ H1 _ ⟨_, _, _, _, _, _, _, q, _⟩ => sameT q bT) ?_ ?_⟩
          · rintro i x σ H1 hx ⟨o7, o8, o9, o10, o11, Tk, rfl, q1, hD1, on, pf⟩
            obtain ⟨r, t, hr1, rfl, tT⟩ := bA i x hx
            obtain ⟨k1, k2⟩ := knp r (List.mem_of_getElem? hr1)
            rw [drop_row hr1, partsF] at pf
            have hV1 := q1 _ _ hV
            have hL1 := q1 _ _ hL
            have nLD : L ≠ D := fun e => by
              rw [e, hD] at hL
              cases hL
            refine ⟨t, _, rfl, sameT q1 tT, rfl, _, _, rfl, _, _, rfl, _, _, rfl, rfl, ?_⟩
            refine ⟨_, rfl, _, rfl, Vd, _, rfl, get_w hV1 k1, _, rfl, _, rfl, Vd, _, rfl, get_w hV1 k2, _, _, rfl, ?_⟩
            dsimp only [gName, List.set]
            have bad : partP (keysH hp) (mapH hp) (wF st) Tk r = none → ∀ H', Same H H' → Q .non H' := fun e => by
              rw [e] at pf
              exact kno pf
            refine ⟨_, rfl, rfl, _, rfl, ?_⟩
            rw [str_eq]
            refine iteD (fun hc => ?_) (fun hc => ?_)
            · have pc : partP (keysH hp) (mapH hp) (wF st) Tk r = (if wF st r.2.1 ∈ keysH hp ∧ ¬ wF st r.2.1 ∈ Tk ∧ mapH hp (wF st r.2.1) = wF st r.2.2 then some (Tk ++ [wF st r.2.1]) else none) := by
                unfold partP
                rw [if_pos hc]
              have no : ¬ (wF st r.2.1 ∈ keysH hp ∧ ¬ wF st r.2.1 ∈ Tk ∧ mapH hp (wF st r.2.1) = wF st r.2.2) → Q .non H1 := fun hn => bad (by rw [pc, if_neg hn]) H1 q1
              refine ⟨_, rfl, _, rfl, L, _, rfl, get_h hL1, _, rfl, ?_⟩
              rw [is_h]
              refine iteND (fun h1 => ?_) (fun h1 => ?_)
              · exact no fun q => h1 q.1
              · refine ⟨_, rfl, _, rfl, D, _, rfl, get_m hD1, _, rfl, ?_⟩
                rw [is_m]
                refine iteD (fun h2 => ?_) (fun h2 => ?_)
                · exact no fun q => q.2.1 h2
                · refine ⟨_, rfl, _, rfl, L, _, rfl, get_hin hL1 h1, _, rfl, rfl, _, rfl, ?_⟩
                  rw [int_ne]
                  refine iteND (fun h3 => ?_) (fun h3 => ?_)
                  · exact no fun q => h3 q.2.2
                  · have lT : Tk.length < sizeLine := by
                      have := once_len on
                      have hl := ok.2
                      unfold keysH at this
                      rw [List.length_map] at this
                      exact small2000 (by omega)
                    refine ⟨_, rfl, _, rfl, D, _, rfl, put_m hD1 h2 lT, ?_⟩
                    refine ⟨_, _, _, _, _, _, rfl, sameOut q1 hD, upd_same, on.snoc h1 h2, ?_⟩
                    rw [pf, pc, if_pos ⟨h1, h2, h3⟩]
                    rfl
            · have pc : partP (keysH hp) (mapH hp) (wF st) Tk r = roadF (keysH hp) (mapH hp) (wF st r.2.2) (wF st r.2.1) Tk := by
                unfold partP
                rw [if_neg hc]
              rw [pc] at pf bad
              refine ⟨_, rfl, _, rfl, _, rfl, _, rfl, _, _, L, D, hp, Tk, rfl, hL1, hD1, nLD, ok, on, fun H2 kp => ?_⟩
              have q2 : Same H H2 := fun b o q => kp b _ (fun e => by rw [e, hD] at q; cases q) (q1 b o q)
              cases e : roadF (keysH hp) (mapH hp) (wF st r.2.2) (wF st r.2.1) Tk with
              | none => exact ⟨_, rfl, bad e H2 q2⟩
              | some T2 =>
                rw [e] at pf
                exact fun hD2 => ⟨_, rfl, _, _, _, _, _, T2, rfl, q2, hD2, roadF_once _ _ on e, pf⟩
          · rintro σ H1 ⟨o7, o8, o9, o10, o11, Tk, rfl, q1, hD1, on, pf⟩
            rw [bl, List.drop_length] at pf
            exact ⟨_, rfl, kyes Tk pf D H1 q1 hD hD1⟩
end
end L2.Hx

/-! Rings and long lists: what the program tells. -/
namespace L2.Hx
open PySem PySem.Spec PyProof.Rows
theorem paired_len {α β : Type} {F : α → β → Prop} {xs : List α} {ys : List β} (h : Paired F xs ys) : xs.length = ys.length := h.length
theorem pairs_at {K : PySem.W.Frag} {H : Hp} {a : Addr} {hp : Hl} (h : PrT K H a (hpK hp)) : ∃ xs, PlT H a xs ∧ xs.length = hp.length ∧ ∀ (i : Nat) (x : V), xs[i]? = some x → ∃ c t, hp[i]? = some c ∧ x = .ref t ∧ SqT K H t [.int c.1, .int c.2] := by
  obtain ⟨ps, h1, h2⟩ := h
  have hl := paired_len h2
  unfold hpK at hl
  rw [List.length_map] at hl
  refine ⟨_, h1, by rw [List.length_map]; exact hl, fun i x hx => ?_⟩
  rw [List.getElem?_map] at hx
  obtain ⟨t, ht, rfl⟩ := Option.map_eq_some_iff.mp hx
  obtain ⟨y, hy, e⟩ := LiI.paired_get h2 ht
  unfold hpK at hy
  rw [List.getElem?_map] at hy
  obtain ⟨c, hc, rfl⟩ := Option.map_eq_some_iff.mp hy
  exact ⟨c, t, hc, rfl, e⟩
theorem stores_at {K : PySem.W.Frag} {H : Hp} {a : Addr} {st : Sl} (h : PrT K H a (stK st)) : ∃ xs, PlT H a xs ∧ xs.length = st.length ∧ ∀ (i : Nat) (x : V), xs[i]? = some x → ∃ c t, st[i]? = some c ∧ x = .ref t ∧ SqT K H t [.str c.1, .int c.2] := by
  obtain ⟨ps, h1, h2⟩ := h
  have hl := paired_len h2
  unfold stK at hl
  rw [List.length_map] at hl
  refine ⟨_, h1, by rw [List.length_map]; exact hl, fun i x hx => ?_⟩
  rw [List.getElem?_map] at hx
  obtain ⟨t, ht, rfl⟩ := Option.map_eq_some_iff.mp hx
  obtain ⟨y, hy, e⟩ := LiI.paired_get h2 ht
  unfold stK at hy
  rw [List.getElem?_map] at hy
  obtain ⟨c, hc, rfl⟩ := Option.map_eq_some_iff.mp hy
  exact ⟨c, t, hc, rfl, e⟩
theorem da_pair {K : PySem.W.Frag} {H : Hp} {t : Addr} {c : Int × Int} (h : SqT K H t [.int c.1, .int c.2]) : Da K H (.ref t) (pairD c) := .tup h (.cons (.int _) (.cons (.int _) .nil))
theorem da_spair {K : PySem.W.Frag} {H : Hp} {t : Addr} {c : Str × Int} (h : SqT K H t [.str c.1, .int c.2]) : Da K H (.ref t) (spairD c) := .tup h (.cons (.str _) (.cons (.int _) .nil))
theorem daAll_of {K : PySem.W.Frag} {H : Hp} {α : Type} {f : α → PyData} : ∀ {xs : List V} {cs : List α}, xs.length = cs.length → (∀ (i : Nat) (x : V), xs[i]? = some x → ∃ c, cs[i]? = some c ∧ Da K H x (f c)) → DaAll K H xs (cs.map f)
  | [], [], _, _ => .nil
  | [], _ :: _, h, _ => by cases h
  | _ :: _, [], h, _ => by cases h
  | x :: xs, c :: cs, h, hh => by
    obtain ⟨c2, e, d⟩ := hh 0 x rfl
    cases e
    exact .cons d (daAll_of (Nat.succ.inj h) fun i y hy => by
      obtain ⟨c3, e3, d3⟩ := hh (i + 1) y (by simpa using hy)
      exact ⟨c3, by simpa using e3, d3⟩)
theorem da_heap {K : PySem.W.Frag} {H : Hp} {a : Addr} {hp : Hl} (h : PrT K H a (hpK hp)) : Da K H (.ref a) (heapD hp) := by
  obtain ⟨xs, h1, h2, h3⟩ := pairs_at h
  refine .tup h1.sqT (daAll_of h2 fun i x hx => ?_)
  obtain ⟨c, t, e1, rfl, e2⟩ := h3 i x hx
  exact ⟨c, e1, da_pair e2⟩
theorem da_store {K : PySem.W.Frag} {H : Hp} {a : Addr} {st : Sl} (h : PrT K H a (stK st)) : Da K H (.ref a) (storeD st) := by
  obtain ⟨xs, h1, h2, h3⟩ := stores_at h
  refine .tup h1.sqT (daAll_of h2 fun i x hx => ?_)
  obtain ⟨c, t, e1, rfl, e2⟩ := h3 i x hx
  exact ⟨c, e1, da_spair e2⟩
abbrev KnR (st : Sl) (rs : List Row) : Prop := ∀ r ∈ rs, Kn st r.2.1 ∧ Kn st r.2.2
def spAll (K : PySem.W.Frag) : Sp := fun vs H Q _ => ∃ v Vd L lk pt st hp, vs = [v, .ref Vd, .ref L, .ref L] ∧ Da K H v (.tuple [lclauseD lk pt]) ∧ H Vd = some (.dK (valK st)) ∧ H L = some (.dK (hpK hp)) ∧ HpOk hp ∧ KnR st lk ∧ KnR st pt ∧
  ∀ H', Same H H' → Q (.bl (wholeP st hp lk pt)) H'
def spHolds (K : PySem.W.Frag) : Sp := fun vs H Q _ => ∃ v s h lk pt st hp, vs = [v, .ref s, .ref h] ∧ Da K H v (.tuple [lclauseD lk pt]) ∧ PrT K H s (stK st) ∧ PrT K H h (hpK hp) ∧ StOk st ∧ HpOk hp ∧ KnR st lk ∧ KnR st pt ∧
  ∀ H', Same H H' → Q (.bl (wholeP st hp lk pt)) H'
def spPart (K : PySem.W.Frag) : Sp := fun vs H Q _ => ∃ v s h lk pt st hp, vs = [v, .ref s, .ref h] ∧ Da K H v (lclauseD lk pt) ∧ PrT K H s (stK st) ∧ PrT K H h (hpK hp) ∧ StOk st ∧ HpOk hp ∧ KnR st lk ∧ KnR st pt ∧
  ∀ u H', Same H H' → Da K H' u (dueP st hp lk pt) → Q u H'
def spLost (K : PySem.W.Frag) : Sp := fun vs H Q _ => ∃ s h st hp, vs = [.ref s, .ref h] ∧ PrT K H s (stK st) ∧ PrT K H h (hpK hp) ∧ StOk st ∧ HpOk hp ∧ ∀ u H', Same H H' → Da K H' u (lostP st hp) → Q u H'
section
variable {P : Program} {w : World} {K : PySem.W.Frag} {mg : Str → Option Value} {base : Heap}
theorem D_takes_all (T : Txt K mg) : Df P w K mg base 3 "takes_all" ["saying", "values", "leads", "singles"] (spAll K) := by
  have D_taken := D_taken (P := P) (w := w) (base := base) T
  obtain ⟨f, fd, S⟩ := T.d_takes_all
  refine Df.mk' (k := 2) S sc_takes_all (fun vs H Q E h => ?_) (fun cdv A outer s H vs Q E hgd hr h => ?_)
  · obtain ⟨v, Vd, L, lk, pt, st, hp, rfl, _⟩ := h
    rfl
  · obtain ⟨v, Vd, L, lk, pt, st, hp, rfl, hd, hV, hL, ok, knl, knp, k⟩ := h
    obtain ⟨a, xs, rfl, hT, hA⟩ := hd.tupI
    cases hA with
    | cons h1 hA =>
      cases hA
      rename_i x0
      refine ⟨_, (pss_cons (ps_for PassesOwn.never rfl (pi_tup (pv 0)) (pg_name (i := 4) sc_takes_all.nd rfl (.inl rfl))
      (pss_cons (ps_set (i := 5) sc_takes_all.nd rfl (.inl rfl) (pe_d D_taken hgd hr (pa_cons (pv 4) (pa_cons (pv 1) (pa_cons (pv 2) (pa_cons (pv 3) pa_nil))))))
      (pss_one (ps_if (PW.pt (pw_and (pt_cmpR op_notN (pv 5) pe_non (nomark _)) (pw_and1 (pt_cmpR op_eq (pe_callB (call_lenD) (by rfl) T.b_len (by decide +kernel) (pa_cons (pv 5) pa_nil)) (pe_callB (call_lenD) (by rfl) T.b_len (by decide +kernel) (pa_cons (pv 2) pa_nil)) (nomark _))))) (pss_one (ps_ret pe_bl)) pss_nil))))
      (pss_one (ps_ret pe_bl))), ?_⟩
      refine ⟨_, rfl, a, rfl, ⟨_, hT⟩, for_tup (K := K) (a := a) (xs := [x0]) (fun i σ H1 => ∃ o4 o5, σ = [some (.ref a), some (.ref Vd), some (.ref L), some (.ref L), o4, o5] ∧ Same H H1 ∧ (i = 1 → wholeP st hp lk pt = false)) ⟨_, _, rfl, Same.refl H, fun e => by cases e⟩ (fun i σ H1 _ ⟨_, _, _, q, _⟩ => sameT q hT) ?_ ?_⟩
      · rintro i x σ H1 hx ⟨o4, o5, rfl, q1, _⟩
        have ex : x = x0 := by
          have hi := (List.getElem?_eq_some_iff.mp hx).1
          have : i = 0 := by simpa using hi
          subst this
          exact (Option.some.inj hx).symm
        subst ex
        dsimp only [gName, List.set]
        refine ⟨_, rfl, _, rfl, _, rfl, _, rfl, x, Vd, L, lk, pt, st, hp, rfl, h1.mono q1, q1 _ _ hV, q1 _ _ hL, ok, knl, knp, ?_⟩
        cases e : takenS st hp lk pt with
        | none =>
          intro H2 q2
          have ew : wholeP st hp lk pt = false := by unfold wholeP; rw [e]
          refine ⟨_, rfl, rfl, false, by simp, ?_⟩
          exact ⟨_, _, rfl, q1.trans q2, fun _ => ew⟩
        | some Tk =>
          intro D H2 q2 hD0 hD
          have ew : wholeP st hp lk pt = decide (Tk.length = hp.length) := by unfold wholeP; rw [e]
          refine ⟨_, rfl, rfl, true, by simp, ?_⟩
          refine ⟨_, rfl, D, _, rfl, hD, _, rfl, L, _, rfl, q2 _ _ (q1 _ _ hL), rfl, _, rfl, ?_⟩
          have el : decide (V.int ((marks Tk).length : Int) = V.int ((hpK hp).length : Int)) = decide (Tk.length = hp.length) := by
            unfold marks hpK
            rw [List.length_map, List.length_map, int_eq]
            by_cases h : Tk.length = hp.length
            · rw [h, decide_eq_true rfl, decide_eq_true rfl]
            · rw [decide_eq_false h]
              exact decide_eq_false (by omega)
          rw [el]
          refine iteB (fun hb => ?_) (fun hb => ?_)
          · have := k H2 (q1.trans q2)
            rw [ew, hb] at this
            exact this
          · exact ⟨_, _, rfl, q1.trans q2, fun _ => ew.trans hb⟩
      · rintro σ H1 ⟨o4, o5, rfl, q1, ew⟩
        have := k H1 q1
        rw [ew rfl] at this
        exact this
theorem DS_holds (T : Txt K mg) : DfS P w K mg base 4 "holds" s_holds ["saying", "store", "heap"] (spHolds K) := by
  have D_values_of := D_values_of (P := P) (w := w) (base := base) T
  have D_takes_all := D_takes_all (P := P) (w := w) (base := base) T
  obtain ⟨f, fd, S⟩ := T.d_holds
  refine DfS.mk' (k := 3) S sc_holds (fun vs H Q E h => ?_) (fun cdv A outer s H vs Q E hgd hr h => ?_)
  · obtain ⟨v, s, h, lk, pt, st, hp, rfl, _⟩ := h
    rfl
  · obtain ⟨v, sa, ha, lk, pt, st, hp, rfl, hd, hs, hh, oks, ok, knl, knp, k⟩ := h
    refine ⟨_, (pss_cons (ps_set (i := 3) sc_holds.nd rfl (.inl rfl) (pe_callTy (call_dictPT rfl) (by rfl) T.b_dict (by decide +kernel) (pa_cons (pv 2) pa_nil)))
      (pss_one (ps_ret (pe_d D_takes_all hgd hr (pa_cons (pv 0) (pa_cons (pe_d D_values_of hgd hr (pa_cons (pv 1) pa_nil)) (pa_cons (pv 3) (pa_cons (pv 3) pa_nil)))))))), ?_⟩
    obtain ⟨ps, pl, pr⟩ := hh
    refine ⟨_, rfl, ha, ps, hpK hp, rfl, pl, pr, fun L hL => ?_⟩
    rw [merge_hp ok]
    have qL : Same H (upd H L (.dK (hpK hp))) := sameAdd hL
    have hL1 : (upd H L (.dK (hpK hp))) L = some (.dK (hpK hp)) := upd_same
    dsimp only [gName, List.set]
    generalize upd H L (.dK (hpK hp)) = H1 at qL hL1 ⊢
    refine ⟨_, rfl, _, rfl, sa, st, rfl, hs.same qL, oks, fun Vd H2 q2 _ hV => ⟨_, rfl, _, rfl, ?_⟩⟩
    exact ⟨v, Vd, L, lk, pt, st, hp, rfl, hd.mono (qL.trans q2), hV, q2 _ _ hL1, ok, knl, knp, fun H3 q3 => k H3 ((qL.trans q2).trans q3)⟩
theorem DS_part_of (T : Txt K mg) : DfS P w K mg base 3 "part_of" s_part_of ["clause", "store", "heap"] (spPart K) := by
  have D_values_of := D_values_of (P := P) (w := w) (base := base) T
  have D_taken := D_taken (P := P) (w := w) (base := base) T
  obtain ⟨f, fd, S⟩ := T.d_part_of
  refine DfS.mk' (k := 2) S sc_part_of (fun vs H Q E h => ?_) (fun cdv A outer s H vs Q E hgd hr h => ?_)
  · obtain ⟨v, s, h, lk, pt, st, hp, rfl, _⟩ := h
    rfl
  · obtain ⟨v, sa, ha, lk, pt, st, hp, rfl, hd, hs, hh, oks, ok, knl, knp, k⟩ := h
    have hu := hu_of hr
    refine ⟨_, (pss_cons (ps_set (i := 3) sc_part_of.nd rfl (.inl rfl) (pe_callTy (call_dictPT rfl) (by rfl) T.b_dict (by decide +kernel) (pa_cons (pv 2) pa_nil)))
      (pss_cons (ps_set (i := 4) sc_part_of.nd rfl (.inr rfl) (pe_d D_taken hgd hr (pa_cons (pv 0) (pa_cons (pe_d D_values_of hgd hr (pa_cons (pv 1) pa_nil)) (pa_cons (pv 3) (pa_cons (pv 3) pa_nil))))))
      (pss_cons (ps_if (pt_cmpR op_isN (pv 4) pe_non (nomark _)) (pss_one (ps_ret pe_non)) pss_nil)
      (pss_one (ps_ret (pe_callTy call_tuple_of (by rfl) T.b_tuple (by decide +kernel) (pa_cons (pe_lc (own := [("cell", 5)]) (g := gName 5) (tt := tB (tDIn (tOp (rIxT K) (tVar 5) (tC (.int 0))) (tVar 4))) (te := tVar 5) rfl sc_part_of.nd (pi_tup (pv 2)) (blkOk_by (own := [("cell", 5)]) (N := ["clause", "store", "heap", "cells", "took", "cell"]) (sc := defScope s_part_of) (by decide +kernel)) (fun _ _ _ _ _ => pg_name (i := 5) sc_part_of.nd rfl (.inl rfl)) (fun _ _ _ _ _ => (pts_one (pt_cmp (pc_din hu (pe_ix ix_tup (pv 5) pe_int (fun _ _ => rfl)) (pv 4))))) (fun _ _ _ _ _ => (pv 5))) pa_nil))))))), ?_⟩
    obtain ⟨ys, yP, yl, yA⟩ := pairs_at hh
    obtain ⟨ps, pl, pr⟩ := hh
    refine ⟨_, rfl, ha, ps, hpK hp, rfl, pl, pr, fun L hL => ?_⟩
    rw [merge_hp ok]
    have qL : Same H (upd H L (.dK (hpK hp))) := sameAdd hL
    have hL1 : (upd H L (.dK (hpK hp))) L = some (.dK (hpK hp)) := upd_same
    dsimp only [gName, List.set]
    generalize upd H L (.dK (hpK hp)) = H1 at qL hL1 ⊢
    refine ⟨_, rfl, _, rfl, sa, st, rfl, hs.same qL, oks, fun Vd H2 q2 _ hV => ⟨_, rfl, _, rfl, ?_⟩⟩
    have q02 := qL.trans q2
    refine ⟨v, Vd, L, lk, pt, st, hp, rfl, hd.mono q02, hV, q2 _ _ hL1, ok, knl, knp, ?_⟩
    cases e : takenS st hp lk pt with
    | none =>
      intro H3 q3
      have ed : dueP st hp lk pt = .none := by unfold dueP; rw [e]
      refine ⟨_, rfl, rfl, true, by simp, ?_⟩
      refine k _ _ (q02.trans q3) ?_
      rw [ed]
      exact .non
    | some Tk =>
      intro D H3 q3 hD0 hD
      have ed : dueP st hp lk pt = heapD (hp.filter fun c => decide (c.1 ∈ Tk)) := by unfold dueP; rw [e]
      refine ⟨_, rfl, rfl, false, by simp, ?_⟩
      have q03 := q02.trans q3
      dsimp only [gName, List.set]
      refine ⟨_, rfl, ha, rfl, ⟨_, sameT q03 yP.sqT⟩, fun N hN => lc_tup (K := K) (a := ha) (xs := ys) (fun i H4 => Same H3 H4 ∧ ∃ us, H4 N = some (.lst us) ∧ us.length ≤ i ∧ DaAll K H us (((hp.take i).filter fun c => decide (c.1 ∈ Tk)).map pairD)) ⟨sameAdd hN, [], upd_same, Nat.le_refl _, .nil⟩ (fun i H4 _ q => sameT (q03.trans q.1) yP.sqT) ?_ ?_⟩
      · rintro i x H4 hx ⟨q4, us, hN4, ul, uA⟩
        obtain ⟨c, t, hc, rfl, tT⟩ := yA i x hx
        have hi := (List.getElem?_eq_some_iff.mp hc).1
        have et : ((hp.take (i + 1)).filter fun c => decide (c.1 ∈ Tk)) = ((hp.take i).filter fun c => decide (c.1 ∈ Tk)) ++ if decide (c.1 ∈ Tk) = true then [c] else [] := by
          rw [List.take_add_one, hc, Option.toList_some, List.filter_append, List.filter_cons, List.filter_nil]
        refine ⟨rfl, _, rfl, t, _, 0, .int c.1, rfl, rfl, sameT (q03.trans q4) tT, rfl, _, rfl, D, _, rfl, get_m (q4 _ _ hD), _, rfl, ?_⟩
        rw [is_m]
        refine iteB (fun hb => ?_) (fun hb => ?_)
        · rw [if_pos hb] at et
          refine ⟨_, rfl, us, hN4, ?_, sameOut q4 hN, _, upd_same, by rw [List.length_append]; exact Nat.add_le_add_right ul 1, ?_⟩
          · have := ok.2
            exact small2000 (by omega)
          · rw [et, List.map_append]
            exact uA.append (.cons (da_pair tT) .nil)
        · rw [if_neg (by rw [hb]; exact Bool.false_ne_true), List.append_nil] at et
          exact ⟨q4, us, hN4, Nat.le_succ_of_le ul, by rw [et]; exact uA⟩
      · rintro H4 ⟨q4, us, hN4, ul, uA⟩
        rw [yl, List.take_length] at uA
        refine ⟨N, us, rfl, .inl ⟨SqL.of hN4, fun l hl => ?_⟩⟩
        have q5 := (q03.trans q4).trans (sameAdd (o := .tup us) hl)
        refine k _ _ q5 ?_
        rw [ed]
        exact .tup (SqT.of upd_same) (uA.mono q5)
theorem DS_lost (T : Txt K mg) : DfS P w K mg base 1 "lost" s_lost ["store", "heap"] (spLost K) := by
  obtain ⟨f, fd, S⟩ := T.d_lost
  refine DfS.mk' (k := 0) S sc_lost (fun vs H Q E h => ?_) (fun cdv A outer s H vs Q E hgd hr h => ?_)
  · obtain ⟨s, h, st, hp, rfl, _⟩ := h
    rfl
  · obtain ⟨sa, ha, st, hp, rfl, hs, hh, oks, ok, k⟩ := h
    have hu := hu_of hr
    refine ⟨_, (pss_cons (ps_set (i := 2) sc_lost.nd rfl (.inl rfl) (pe_callTy (call_dictPT rfl) (by rfl) T.b_dict (by decide +kernel) (pa_cons (pv 1) pa_nil)))
      (pss_cons (ps_set (i := 3) sc_lost.nd rfl (.inr rfl) pe_dnewK)
      (pss_cons (ps_for PassesOwn.never rfl (pi_tup (pv 0)) (pg_tup rfl (pgs_cons (pg_name (i := 4) sc_lost.nd rfl (.inl rfl)) (pgs_cons (pg_name (i := 5) sc_lost.nd rfl (.inl rfl)) pgs_nil)))
      (pss_cons (ps_set (i := 6) sc_lost.nd rfl (.inl rfl) (pv 5))
      (pss_one (ps_while PassesOwn.never (PW.pt (pw_and (pt_cmp (pc_din hu (pv 6) (pv 2))) (pw_and1 (pt_cmp (pc_dnotin hu (pv 6) (pv 3)))))) (pss_cons (ps_dput hu (pv 3) (pv 6) pe_bl rfl)
      (pss_one (ps_set (i := 6) sc_lost.nd rfl (.inl rfl) (pe_dget hu (pv 2) (pv 6) (fun _ _ => rfl)))))))))
      (pss_one (ps_ret (pe_callTy call_tuple_of (by rfl) T.b_tuple (by decide +kernel) (pa_cons (pe_lc (X := (cxOf CX0 P w K mg base ["store", "heap", "cells", "reached", "_", "value", "at", "address"] "lost" (defScope s_lost) f cdv A outer s H E).nox) (own := [("address", 7), ("_", 4)]) (g := gTup K 2 (gCons (gName 7) (gCons (gName 4) gNil))) (tt := tB (tDNotIn (tVar 7) (tVar 3))) (te := tVar 7) rfl sc_lost.nd (pi_tup (pv 1)) (blkOk_by (own := [("address", 7), ("_", 4)]) (N := ["store", "heap", "cells", "reached", "_", "value", "at", "address"]) (sc := defScope s_lost) (by decide +kernel)) (fun _ _ _ _ _ => pg_tup rfl (pgs_cons (pg_name (i := 7) sc_lost.nd rfl (.inl rfl)) (pgs_cons (pg_name (i := 4) sc_lost.nd rfl (.inl rfl)) pgs_nil))) (fun _ _ _ _ _ => (pts_one (pt_cmp (pc_dnotin hu (pv 7) (pv 3))))) (fun _ _ _ _ _ => (pv 7))) pa_nil))))))), ?_⟩
    obtain ⟨ys, yP, yl, yA⟩ := pairs_at hh
    obtain ⟨zs, zP, zl, zA⟩ := stores_at hs
    obtain ⟨ps, pl, pr⟩ := hh
    refine ⟨_, rfl, ha, ps, hpK hp, rfl, pl, pr, fun L hL => ?_⟩
    rw [merge_hp ok]
    have qL : Same H (upd H L (.dK (hpK hp))) := sameAdd hL
    have hL1 : (upd H L (.dK (hpK hp))) L = some (.dK (hpK hp)) := upd_same
    dsimp only [gName, List.set]
    generalize upd H L (.dK (hpK hp)) = H1 at qL hL1 ⊢
    refine fun D hD => ?_
    have nLD : L ≠ D := fun e => by
      rw [e, hD] at hL1
      cases hL1
    dsimp only [gName, List.set]
    refine ⟨_, rfl, sa, rfl, ⟨_, sameT (qL.trans (sameAdd hD)) zP.sqT⟩, for_tup (K := K) (a := sa) (xs := zs) (fun i σ H2 => ∃ o4 o5 o6 o7 Tk, σ = [some (.ref sa), some (.ref ha), some (.ref L), some (.ref D), o4, o5, o6, o7] ∧ Same H1 H2 ∧ H2 D = some (.dK (marks Tk)) ∧
        Once (keysH hp) Tk ∧ metP hp st [] = metP hp (st.drop i) Tk) ⟨_, _, _, _, [], rfl, sameAdd hD, upd_same, Once.nil, rfl⟩ (fun i σ H2 _ ⟨_, _, _, _, _, _, q, _⟩ => sameT (qL.trans q) zP.sqT) ?_ ?_⟩
    · rintro i x σ H2 hx ⟨o4, o5, o6, o7, Tk, rfl, q2, hD2, on, mt⟩
      obtain ⟨c, t, hc, rfl, tT⟩ := zA i x hx
      rw [drop_row hc, metP] at mt
      refine ⟨t, _, rfl, sameT (qL.trans q2) tT, rfl, _, _, rfl, _, _, rfl, rfl, ?_⟩
      dsimp only [gName, List.set]
      refine ⟨_, rfl, ?_⟩
      dsimp only [gName, List.set]
      refine ⟨fun m σ H3 => ∃ v T2, σ = [some (.ref sa), some (.ref ha), some (.ref L), some (.ref D), some (.str c.1), some (.int c.2), some (.int v), o7] ∧ m = msr (keysH hp) T2 ∧ Same H1 H3 ∧ H3 D = some (.dK (marks T2)) ∧ Once (keysH hp) T2 ∧
          reachF (keysH hp) (mapH hp) c.2 Tk = reachF (keysH hp) (mapH hp) v T2, ⟨_, c.2, Tk, rfl, rfl, q2, hD2, on, rfl⟩, ?_⟩
      rintro m σ H3 ⟨v, T2, rfl, rfl, q3, hD3, on3, rc⟩
      have hL3 := q3 _ _ hL1
      have stop : ¬ (v ∈ keysH hp ∧ ¬ v ∈ T2) → ∃ o4 o5 o6 o7' Tk, ([some (.ref sa), some (.ref ha), some (.ref L), some (.ref D), some (.str c.1), some (.int c.2), some (.int v), o7] : St) = [some (.ref sa), some (.ref ha), some (.ref L), some (.ref D), o4, o5, o6, o7'] ∧ Same H1 H3 ∧ H3 D = some (.dK (marks Tk)) ∧
          Once (keysH hp) Tk ∧ metP hp st [] = metP hp (st.drop (i + 1)) Tk := fun hn => by
        rw [reachF_no hn] at rc
        exact ⟨_, _, _, _, T2, rfl, q3, hD3, on3, by rw [mt, rc]⟩
      refine ⟨_, rfl, _, rfl, L, _, rfl, get_h hL3, _, rfl, ?_⟩
      rw [is_h]
      refine iteD (fun h1 => ?_) (fun h1 => ?_)
      · refine ⟨_, rfl, _, rfl, D, _, rfl, get_m hD3, _, rfl, ?_⟩
        rw [is_m]
        refine iteND (fun h2 => ?_) (fun h2 => ?_)
        · refine ⟨fun σ H4 => ∃ v T3, σ = [some (.ref sa), some (.ref ha), some (.ref L), some (.ref D), some (.str c.1), some (.int c.2), some (.int v), o7] ∧ msr (keysH hp) T3 < msr (keysH hp) T2 ∧ Same H1 H4 ∧ H4 D = some (.dK (marks T3)) ∧ Once (keysH hp) T3 ∧
              reachF (keysH hp) (mapH hp) c.2 Tk = reachF (keysH hp) (mapH hp) v T3, fun σ H4 ⟨v, T3, e1, lt, r⟩ => ⟨_, lt, v, T3, e1, rfl, r⟩, ?_⟩
          have lT : T2.length < sizeLine := by
            have := once_len on3
            have hl := ok.2
            unfold keysH at this
            rw [List.length_map] at this
            exact small2000 (by omega)
          refine ⟨_, rfl, _, rfl, D, _, rfl, put_m hD3 h2 lT, ?_⟩
          have hL4 : (upd H3 D (.dK (marks (T2 ++ [v])))) L = some (.dK (hpK hp)) := by rw [upd_ne nLD]; exact hL3
          refine ⟨_, rfl, _, rfl, L, _, rfl, get_hin hL4 h1, ?_⟩
          exact ⟨_, _, rfl, msr_lt h1 h2, sameOut q3 hD, upd_same, on3.snoc h1 h2, by rw [rc, reachF_on h1 h2]⟩
        · exact stop fun q => q.2 h2
      · exact stop fun q => h1 q.1
    · rintro σ H2 ⟨o4, o5, o6, o7, Tk, rfl, q2, hD2, on, mt⟩
      rw [zl, List.drop_length] at mt
      have mt : metP hp st [] = Tk := mt
      have q02 := qL.trans q2
      dsimp only [gName, List.set]
      refine ⟨_, rfl, ha, rfl, ⟨_, sameT q02 yP.sqT⟩, fun N hN => lc_tup (K := K) (a := ha) (xs := ys) (fun i H4 => Same H2 H4 ∧ H4 N = some (.lst (((hp.take i).filter fun c => !decide (c.1 ∈ Tk)).map fun c => V.int c.1))) ⟨sameAdd hN, upd_same⟩ (fun i H4 _ q => sameT (q02.trans q.1) yP.sqT) ?_ ?_⟩
      · rintro i x H4 hx ⟨q4, hN4⟩
        obtain ⟨c, t, hc, rfl, tT⟩ := yA i x hx
        have hi := (List.getElem?_eq_some_iff.mp hc).1
        have et : ((hp.take (i + 1)).filter fun c => !decide (c.1 ∈ Tk)) = ((hp.take i).filter fun c => !decide (c.1 ∈ Tk)) ++ if (!decide (c.1 ∈ Tk)) = true then [c] else [] := by
          rw [List.take_add_one, hc, Option.toList_some, List.filter_append, List.filter_cons, List.filter_nil]
        refine ⟨t, _, rfl, sameT (q02.trans q4) tT, rfl, _, _, rfl, _, _, rfl, rfl, ?_⟩
        refine ⟨rfl, _, rfl, _, rfl, D, _, rfl, get_m (q4 _ _ hD2), _, rfl, ?_⟩
        rw [is_m]
        refine iteB (fun hb => ?_) (fun hb => ?_)
        · rw [if_pos hb] at et
          refine ⟨_, rfl, _, hN4, ?_, sameOut q4 hN, ?_⟩
          · rw [List.length_map]
            have := ok.2
            have h2 := List.length_filter_le (fun c : Int × Int => !decide (c.1 ∈ Tk)) (hp.take i)
            rw [List.length_take] at h2
            exact small2000 (by omega)
          · rw [upd_same, et, List.map_append]
            rfl
        · rw [if_neg (by rw [hb]; exact Bool.false_ne_true), List.append_nil] at et
          exact ⟨q4, by rw [et]; exact hN4⟩
      · rintro H4 ⟨q4, hN4⟩
        rw [yl, List.take_length] at hN4
        refine ⟨N, _, rfl, .inl ⟨SqL.of hN4, fun l hl => ?_⟩⟩
        refine k _ _ ((q02.trans q4).trans (sameAdd hl)) ?_
        unfold lostP
        rw [mt]
        refine .tup (SqT.of upd_same) (daAll_of (by rw [List.length_map]) fun i x hx => ?_)
        rw [List.getElem?_map] at hx
        obtain ⟨c, hc, rfl⟩ := Option.map_eq_some_iff.mp hx
        exact ⟨c, hc, .int _⟩
end
end L2.Hx

/-! Rings and long lists: the law's looks and roads. -/
namespace L2.Hx
open PySem PySem.Spec PyProof.Rows
theorem inV_int {a : Int} : ∀ T : List Int, inV (.int a) (T.map V.int) = decide (a ∈ T)
  | [] => rfl
  | t :: T => by
    have ih := inV_int (a := a) T
    show (eqV (.int t) (.int a) || inV (.int a) (T.map V.int)) = _
    rw [ih]
    have e : eqV (.int t) (.int a) = decide (a = t) := by
      show (t == a) = _
      by_cases h : a = t
      · rw [h, decide_eq_true rfl]
        exact beq_self_eq_true t
      · rw [decide_eq_false h]
        exact beq_eq_false_iff_ne.mpr fun q => h q.symm
    rw [e]
    by_cases h1 : a = t
    · have hm : a ∈ t :: T := by
        rw [h1]
        exact List.mem_cons_self
      rw [decide_eq_true h1, decide_eq_true hm]
      rfl
    · by_cases h2 : a ∈ T
      · rw [decide_eq_true h2, decide_eq_true (List.mem_cons_of_mem _ h2), Bool.or_true]
      · rw [decide_eq_false h1, decide_eq_false h2, decide_eq_false fun q => (List.mem_cons.mp q).elim h1 h2]
        rfl
theorem flat_ints : ∀ T : List Int, (T.map V.int).all flatV = true
  | [] => rfl
  | t :: T => by
    rw [List.map_cons, List.all_cons, flat_ints T]
    rfl
def spWorth (K : PySem.W.Frag) : Sp := fun vs H Q _ => ∃ s t st, vs = [.ref s, .str t] ∧ PrT K H s (stK st) ∧ StOk st ∧ Kn st t ∧ ∀ H', Same H H' → Q (.int (wF st t)) H'
def spTrue (K : PySem.W.Frag) : Sp := fun vs H Q _ => ∃ v s lk pt st, vs = [v, .ref s] ∧ Da K H v (lclauseD lk pt) ∧ PrT K H s (stK st) ∧ StOk st ∧ KnR st lk ∧ ∀ H', Same H H' → Q (.bl (looksF (wF st) lk)) H'
def spRoad (K : PySem.W.Frag) : Sp := fun vs H Q _ => ∃ v s h r st hp, vs = [v, .ref s, .ref h] ∧ Da K H v (lrowD r) ∧ PrT K H s (stK st) ∧ PrT K H h (hpK hp) ∧ StOk st ∧ HpOk hp ∧ Kn st r.2.1 ∧ Kn st r.2.2 ∧
  match partR (keysH hp) (mapH hp) (wF st) r with
    | none => ∀ H', Same H H' → Q .non H'
    | some T => ∀ N H', Same H H' → H N = none → H' N = some (.lst (T.map V.int)) → Q (.ref N) H'
section
variable {P : Program} {w : World} {K : PySem.W.Frag} {mg : Str → Option Value} {base : Heap}
theorem D_l_worth (T : Txt K mg) : Df P w K mg base 1 "_law_worth" ["store", "term"] (spWorth K) := by
  obtain ⟨f, fd, S⟩ := T.d_l_worth
  refine Df.mk' (k := 0) S sc_l_worth (fun vs H Q E h => ?_) (fun cdv A outer s H vs Q E hgd hr h => ?_)
  · obtain ⟨s, t, st, rfl, _⟩ := h
    rfl
  · obtain ⟨sa, t, st, rfl, ⟨ps, pl, pr⟩, oks, kn, k⟩ := h
    have hu := hu_of hr
    refine ⟨_, (pss_one (ps_ret (pe_ifExp (pt_cmpR op_eq (pv 1) pe_str (nomark _)) pe_int (pe_dget hu (pe_callTy (call_dictPT rfl) (by rfl) T.b_dict (by decide +kernel) (pa_cons (pv 0) pa_nil)) (pv 1) (fun _ _ => rfl))))), ?_⟩
    have kw := kn.eq
    refine ⟨_, rfl, rfl, _, rfl, ?_⟩
    rw [str_eq]
    refine iteD (fun hn => ?_) (fun hn => ?_)
    · have e : wF st t = 0 := by
        unfold worth at kw
        rw [if_pos hn] at kw
        exact (Option.some.inj kw).symm
      have := k H (Same.refl H)
      rw [e] at this
      exact this
    · refine ⟨_, rfl, sa, ps, stK st, rfl, pl, pr, fun D hD => ?_⟩
      rw [merge_st oks]
      have g : DGet (upd H D (.dK (stK st))) D (.str t) (some (.int (wF st t))) := by
        have := DGet.k (k := .inr t) (H := upd H D (.dK (stK st))) (a := D) upd_same
        unfold worth at kw
        rw [if_neg hn] at kw
        rw [valV_st, kw] at this
        exact this
      exact ⟨_, rfl, D, _, rfl, g, k _ (sameAdd hD)⟩
theorem D_l_looks_true (T : Txt K mg) : Df P w K mg base 2 "_law_looks_true" ["clause", "store"] (spTrue K) := by
  have D_l_worth := D_l_worth (P := P) (w := w) (base := base) T
  obtain ⟨f, fd, S⟩ := T.d_l_looks_true
  refine Df.mk' (k := 1) S sc_l_looks_true (fun vs H Q E h => ?_) (fun cdv A outer s H vs Q E hgd hr h => ?_)
  · obtain ⟨v, s, lk, pt, st, rfl, _⟩ := h
    rfl
  · obtain ⟨v, sa, lk, pt, st, rfl, hd, hs, oks, kn, k⟩ := h
    obtain ⟨a, xs, rfl, hT, hA⟩ := hd.tupI
    cases hA with
    | cons h1 hA =>
      cases hA with
      | cons h2 hA =>
        cases hA
        obtain ⟨b, ys, rfl, bT, bl, bA⟩ := rows_at h1
        refine ⟨_, (pss_cons (ps_for PassesOwn.never rfl (pi_tup (pe_ix ix_tup (pv 0) pe_int (fun _ _ => rfl))) (pg_tup rfl (pgs_cons (pg_name (i := 2) sc_l_looks_true.nd rfl (.inl rfl)) (pgs_cons (pg_name (i := 3) sc_l_looks_true.nd rfl (.inl rfl)) (pgs_cons (pg_name (i := 4) sc_l_looks_true.nd rfl (.inl rfl)) pgs_nil))))
      (pss_one (ps_if (pt_cmpR op_ne (pe_cmpR op_eq (pe_d D_l_worth hgd hr (pa_cons (pv 1) (pa_cons (pv 3) pa_nil))) (pe_d D_l_worth hgd hr (pa_cons (pv 1) (pa_cons (pv 4) pa_nil))) (nomark _)) (pe_cmpR op_eq (pv 2) pe_str (nomark _)) (nomark _)) (pss_one (ps_ret pe_bl)) pss_nil)))
      (pss_one (ps_ret pe_bl))), ?_⟩
        refine ⟨_, rfl, a, _, 0, .ref b, rfl, rfl, hT, rfl, b, rfl, ⟨_, bT⟩, for_tup (K := K) (a := b) (xs := ys) (fun i σ H1 => ∃ o2 o3 o4, σ = [some (.ref a), some (.ref sa), o2, o3, o4] ∧ Same H H1 ∧ looksF (wF st) lk = looksF (wF st) (lk.drop i)) ⟨none, none, none, rfl, Same.refl H, rfl⟩ (fun i σ H1 _ ⟨_, _, _, _, q, _⟩ => sameT q bT) ?_ ?_⟩
        · rintro i x σ H1 hx ⟨o2, o3, o4, rfl, q1, p2⟩
          obtain ⟨r, t, hr1, rfl, tT⟩ := bA i x hx
          obtain ⟨k1, k2⟩ := kn r (List.mem_of_getElem? hr1)
          rw [drop_row hr1] at p2
          have e2 : looksF (wF st) (r :: lk.drop (i + 1)) = (lookF (wF st) r && looksF (wF st) (lk.drop (i + 1))) := rfl
          refine ⟨t, _, rfl, sameT q1 tT, rfl, _, _, rfl, _, _, rfl, _, _, rfl, rfl, ?_⟩
          refine ⟨_, rfl, _, rfl, sa, _, st, rfl, hs.same q1, oks, k1, fun H2 q2 => ?_⟩
          refine ⟨_, rfl, _, rfl, sa, _, st, rfl, hs.same (q1.trans q2), oks, k2, fun H3 q3 => ?_⟩
          refine ⟨rfl, _, rfl, rfl, rfl, _, rfl, ?_⟩
          rw [look_b]
          have q123 := (q1.trans q2).trans q3
          refine iteNot (fun hb => ?_) (fun hb => ?_)
          · have hb : lookF (wF st) r = false := hb
            have := k H3 q123
            rw [p2, e2, hb, Bool.false_and] at this
            exact this
          · have hb : lookF (wF st) r = true := hb
            rw [e2, hb, Bool.true_and] at p2
            exact ⟨_, _, _, rfl, q123, p2⟩
        · rintro σ H1 ⟨o2, o3, o4, rfl, q1, p2⟩
          rw [bl, List.drop_length] at p2
          have := k H1 q1
          rw [p2] at this
          exact this
theorem D_l_road (T : Txt K mg) : Df P w K mg base 2 "_law_road" ["part", "store", "heap"] (spRoad K) := by
  have D_l_worth := D_l_worth (P := P) (w := w) (base := base) T
  obtain ⟨f, fd, S⟩ := T.d_l_road
  refine Df.mk' (k := 1) S sc_l_road (fun vs H Q E h => ?_) (fun cdv A outer s H vs Q E hgd hr h => ?_)
  · obtain ⟨v, s, h, r, st, hp, rfl, _⟩ := h
    rfl
  · obtain ⟨v, sa, ha, r, st, hp, rfl, hd, hs, hh, oks, ok, k1, k2, k⟩ := h
    have hu := hu_of hr
    have kno : partR (keysH hp) (mapH hp) (wF st) r = none → ∀ H', Same H H' → Q .non H' := fun e => by
      rw [e] at k
      exact k
    have kyes : ∀ T, partR (keysH hp) (mapH hp) (wF st) r = some T → ∀ N H', Same H H' → H N = none → H' N = some (.lst (T.map V.int)) → Q (.ref N) H' := fun T e => by
      rw [e] at k
      exact k
    obtain ⟨t, rfl, tT⟩ := row_at hd
    refine ⟨_, (pss_cons (ps_par (i := 3) (j := 4) (by rfl) sc_l_road.nd rfl rfl (by decide) rfl rfl (pa_cons (pe_d D_l_worth hgd hr (pa_cons (pv 1) (pa_cons (pe_ix ix_tup (pv 0) pe_int (fun _ _ => rfl)) pa_nil))) (pa_cons (pe_d D_l_worth hgd hr (pa_cons (pv 1) (pa_cons (pe_ix ix_tup (pv 0) pe_int (fun _ _ => rfl)) pa_nil))) pa_nil)) (by rfl))
      (pss_cons (ps_par (i := 5) (j := 6) (by rfl) sc_l_road.nd rfl rfl (by decide) rfl rfl (pa_cons (pe_callTy (call_dictPT rfl) (by rfl) T.b_dict (by decide +kernel) (pa_cons (pv 2) pa_nil)) (pa_cons (pe_lst pa_nil) pa_nil)) (by rfl))
      (pss_cons (ps_if (pt_cmpR op_eq (pe_ix ix_tup (pv 0) pe_int (fun _ _ => rfl)) pe_str (nomark _)) (pss_one (ps_ret (pe_ifExp (pt_cmpR op_eq (pe_dget1 hu (pv 5) (pv 3) ⟨by rfl, by rfl, by rfl, by rfl⟩) (pv 4) (nomark _)) (pe_lst (pa_cons (pv 3) pa_nil)) pe_non))) pss_nil)
      (pss_cons (ps_while PassesOwn.never (pt_cmpR op_ne (pv 3) (pv 4) (nomark _)) (pss_cons (ps_if (PW.pt (pw_or (pt_cmp (pc_dnotin hu (pv 3) (pv 5))) (pw_or1 (pt_cmpR op_in_seq (pv 3) (pv 6) (by rfl))))) (pss_one (ps_ret pe_non)) pss_nil)
      (pss_cons (ps_expr (pe_bm PySem.F.plainAttrs_list PySem.F.slot_list_append PySem.F.type_list_append mt_append (pv 6) (pa_cons (pv 3) pa_nil)))
      (pss_one (ps_set (i := 3) sc_l_road.nd rfl (.inl rfl) (pe_dget hu (pv 5) (pv 3) (fun _ _ => rfl)))))))
      (pss_one (ps_ret (pv 6))))))), ?_⟩
    refine ⟨_, rfl, _, rfl, t, _, 1, .str r.2.1, rfl, rfl, tT, rfl, sa, _, st, rfl, hs, oks, k1, fun H1 q1 => ?_⟩
    refine ⟨_, rfl, _, rfl, t, _, 2, .str r.2.2, rfl, rfl, sameT q1 tT, rfl, sa, _, st, rfl, hs.same q1, oks, k2, fun H2 q2 => ⟨_, _, rfl, ?_⟩⟩
    dsimp only [gName, List.set]
    have q02 := q1.trans q2
    obtain ⟨ps, pl, pr⟩ := hh.same q02
    refine ⟨_, rfl, ha, ps, hpK hp, rfl, pl, pr, fun L hL => ?_⟩
    rw [merge_hp ok]
    refine ⟨Nat.zero_le _, fun N hN => ⟨_, _, rfl, ?_⟩⟩
    dsimp only [gName, List.set]
    have nLN : L ≠ N := fun e => by
      rw [e, upd_same] at hN
      cases hN
    have qL : Same H (upd H2 L (.dK (hpK hp))) := q02.trans (sameAdd hL)
    have hN0 : H N = none := by
      cases e : H N with
      | none => rfl
      | some o =>
        rw [qL _ _ e] at hN
        cases hN
    have qN : Same H (upd (upd H2 L (.dK (hpK hp))) N (.lst [])) := qL.trans (sameAdd hN)
    have hL1 : (upd (upd H2 L (.dK (hpK hp))) N (.lst [])) L = some (.dK (hpK hp)) := by rw [upd_ne nLN, upd_same]
    have hN1 : (upd (upd H2 L (.dK (hpK hp))) N (.lst [])) N = some (.lst (([] : List Int).map V.int)) := upd_same
    generalize upd (upd H2 L (.dK (hpK hp))) N (.lst []) = H3 at qN hL1 hN1 ⊢
    refine ⟨_, rfl, t, _, 0, .str r.1, rfl, rfl, sameT qN tT, rfl, rfl, _, rfl, ?_⟩
    rw [str_eq]
    refine iteD (fun hc => ?_) (fun hc => ?_)
    · have pc : partR (keysH hp) (mapH hp) (wF st) r = (if wF st r.2.1 ∈ keysH hp ∧ mapH hp (wF st r.2.1) = wF st r.2.2 then some [wF st r.2.1] else none) := by
        unfold partR
        rw [if_pos hc]
      by_cases hin : wF st r.2.1 ∈ keysH hp
      · refine ⟨_, rfl, L, rfl, .inl ⟨_, .inl hL1⟩, _, rfl, _, get_hin hL1 hin, _, rfl, rfl, _, rfl, ?_⟩
        show if decide (V.int _ = V.int _) = true then _ else _
        rw [int_eq]
        refine iteD (fun he => ?_) (fun he => ?_)
        · refine ⟨_, rfl, by show 1 ≤ sizeLine; decide, fun N2 hN2 => ?_⟩
          have hn : H N2 = none := by
            cases e : H N2 with
            | none => rfl
            | some o =>
              rw [qN _ _ e] at hN2
              cases hN2
          exact kyes [wF st r.2.1] (by rw [pc, if_pos ⟨hin, he⟩]) N2 _ (qN.trans (sameAdd hN2)) hn upd_same
        · exact kno (by rw [pc, if_neg (fun q => he q.2)]) H3 qN
      · have g := get_h (k := wF st r.2.1) hL1
        rw [getH_out hin] at g
        refine ⟨_, rfl, L, rfl, .inl ⟨_, .inl hL1⟩, _, rfl, _, g, _, rfl, rfl, _, rfl, ?_⟩
        show if decide (V.non = V.int _) = true then _ else _
        rw [decide_eq_false (fun q => by cases q)]
        exact kno (by rw [pc, if_neg (fun q => hin q.1)]) H3 qN
    · have pc : partR (keysH hp) (mapH hp) (wF st) r = roadF (keysH hp) (mapH hp) (wF st r.2.2) (wF st r.2.1) [] := by
        unfold partR
        rw [if_neg hc]
      rw [pc] at kno kyes
      refine ⟨fun m σ H4 => ∃ v Tk, σ = [some (.ref t), some (.ref sa), some (.ref ha), some (.int v), some (.int (wF st r.2.2)), some (.ref L), some (.ref N)] ∧ m = msr (keysH hp) Tk ∧ Same H H4 ∧ H4 L = some (.dK (hpK hp)) ∧ H4 N = some (.lst (Tk.map V.int)) ∧ Once (keysH hp) Tk ∧
          roadF (keysH hp) (mapH hp) (wF st r.2.2) (wF st r.2.1) [] = roadF (keysH hp) (mapH hp) (wF st r.2.2) v Tk, ⟨_, wF st r.2.1, [], rfl, rfl, qN, hL1, hN1, Once.nil, rfl⟩, ?_⟩
      rintro m σ H4 ⟨v, Tk, rfl, rfl, q4, hL4, hN4, on, rd⟩
      rw [rd] at kno kyes
      refine ⟨_, rfl, _, rfl, rfl, _, rfl, ?_⟩
      rw [int_ne]
      refine iteND (fun hne => ?_) (fun heq => ?_)
      · refine ⟨fun σ H5 => ∃ v Tk2, σ = [some (.ref t), some (.ref sa), some (.ref ha), some (.int v), some (.int (wF st r.2.2)), some (.ref L), some (.ref N)] ∧ msr (keysH hp) Tk2 < msr (keysH hp) Tk ∧ Same H H5 ∧ H5 L = some (.dK (hpK hp)) ∧ H5 N = some (.lst (Tk2.map V.int)) ∧ Once (keysH hp) Tk2 ∧
            roadF (keysH hp) (mapH hp) (wF st r.2.2) (wF st r.2.1) [] = roadF (keysH hp) (mapH hp) (wF st r.2.2) v Tk2, fun σ H5 ⟨v, T2, e1, lt, r⟩ => ⟨_, lt, v, T2, e1, rfl, r⟩, ?_⟩
        have no : ¬ (v ∈ keysH hp ∧ ¬ v ∈ Tk) → Q .non H4 := fun hn => kno (roadF_no hne hn) H4 q4
        refine ⟨_, rfl, _, rfl, L, _, rfl, get_h hL4, _, rfl, ?_⟩
        rw [is_h]
        refine iteND (fun h1 => ?_) (fun h1 => ?_)
        · exact no fun q => h1 q.1
        · refine ⟨_, rfl, _, rfl, N, _, rfl, .inl (SqL.of hN4), rfl, flat_ints Tk, _, rfl, ?_⟩
          show if inV (.int v) (Tk.map V.int) = true then _ else _
          rw [inV_int]
          refine iteD (fun h2 => ?_) (fun h2 => ?_)
          · exact no fun q => q.2 h2
          · have lT : Tk.length < sizeLine := by
              have := once_len on
              have hl := ok.2
              unfold keysH at this
              rw [List.length_map] at this
              exact small2000 (by omega)
            refine ⟨_, rfl, .inl ⟨rfl, _, SqL.of hN4⟩, _, rfl, N, _, _, rfl, rfl, hN4, by rw [List.length_map]; exact lT, ?_⟩
            have hL5 : (upd H4 N (.lst (Tk.map V.int ++ [.int v]))) L = some (.dK (hpK hp)) := by rw [upd_ne nLN]; exact hL4
            refine ⟨_, rfl, _, rfl, L, _, rfl, get_hin hL5 h1, ?_⟩
            refine ⟨_, Tk ++ [v], rfl, msr_lt h1 h2, sameOut q4 hN0, hL5, ?_, on.snoc h1 h2, by rw [rd, roadF_on hne h1 h2]⟩
            rw [upd_same, List.map_append]
            rfl
      · exact ⟨_, rfl, kyes Tk (roadF_end heq) N H4 q4 hN0 hN4⟩
end
end L2.Hx

/-! Rings and long lists: what is due by the law's own roads. -/
namespace L2.Hx
open PySem PySem.Spec PyProof.Rows
theorem eqv_nilI (ns : List Int) : PyData.eqv (.list (ns.map PyData.int)) (.list []) = decide (ns = []) := by
  cases ns <;> simp [PyData.eqv, PyData.eqvAll]
theorem sum4000 {a b : Nat} (ha : a ≤ 2000) (hb : b ≤ 2000) : a + b ≤ sizeLine := by
  have : 5000 ≤ sizeLine := by decide
  omega
theorem free_filter (S : List Int) : ∀ T : List Int, decide ((T.filter fun x => decide (x ∈ S)) = []) = freeOf S T
  | [] => rfl
  | t :: T => by
    have ih := free_filter S T
    unfold freeOf at ih ⊢
    rw [List.filter_cons, List.all_cons]
    by_cases h : t ∈ S
    · rw [decide_eq_true h, if_pos rfl]
      exact decide_eq_false fun q => by cases q
    · rw [decide_eq_false h, if_neg Bool.false_ne_true, ih]
      rfl
theorem pairs_snoc {F : Addr → List Int → Prop} {as : List Addr} {rds : List (List Int)} {a : Addr} {rd : List Int} (h : Paired F as rds) (h2 : F a rd) : Paired F (as ++ [a]) (rds ++ [rd]) := by
  induction h with
  | nil => exact .cons h2 .nil
  | cons p t ih => exact .cons p ih
theorem LiI_pairs {H H' : Hp} {R N : Addr} {as : List Addr} {rds : List (List Int)} (h : Paired (fun (a : Addr) (rd : List Int) => H a = some (.lst (rd.map V.int))) as rds) (off : ∀ a ∈ as, a ≠ R ∧ a ≠ N) (keep : ∀ x o, x ≠ R → x ≠ N → H x = some o → H' x = some o) :
    Paired (fun (a : Addr) (rd : List Int) => H' a = some (.lst (rd.map V.int))) as rds := by
  induction h with
  | nil => exact .nil
  | cons p t ih =>
    have o := off _ List.mem_cons_self
    exact .cons (keep _ _ o.1 o.2 p) (ih fun x hx => off x (List.mem_cons_of_mem _ hx))
def spRoads (K : PySem.W.Frag) : Sp := fun vs H Q _ => ∃ v s h lk pt st hp, vs = [v, .ref s, .ref h] ∧ Da K H v (lclauseD lk pt) ∧ PrT K H s (stK st) ∧ PrT K H h (hpK hp) ∧ StOk st ∧ HpOk hp ∧ KnR st lk ∧ KnR st pt ∧ pt.length ≤ 1000 ∧
  match takenS st hp lk pt with
    | none => ∀ H', Same H H' → Q .non H'
    | some T => ∀ (N : Addr) (as : List Addr) (rds : List (List Int)) (H' : Hp), Same H H' → H' N = some (.lst (as.map V.ref)) → Paired (fun a rd => H' a = some (.lst (rd.map V.int))) as rds → rds.flatten = T → Q (.ref N) H'
def spPartL (K : PySem.W.Frag) : Sp := fun vs H Q _ => ∃ v s h lk pt st hp, vs = [v, .ref s, .ref h] ∧ Da K H v (lclauseD lk pt) ∧ PrT K H s (stK st) ∧ PrT K H h (hpK hp) ∧ StOk st ∧ HpOk hp ∧ KnR st lk ∧ KnR st pt ∧ pt.length ≤ 1000 ∧
  ∀ u H', Same H H' → Da K H' u (dueP st hp lk pt) → Q u H'
section
variable {P : Program} {w : World} {K : PySem.W.Frag} {mg : Str → Option Value} {base : Heap}
theorem D_l_roads (T : Txt K mg) : Df P w K mg base 3 "_law_roads" ["clause", "store", "heap"] (spRoads K) := by
  have D_l_looks_true := D_l_looks_true (P := P) (w := w) (base := base) T
  have D_l_road := D_l_road (P := P) (w := w) (base := base) T
  obtain ⟨f, fd, S⟩ := T.d_l_roads
  refine Df.mk' (k := 2) S sc_l_roads (fun vs H Q E h => ?_) (fun cdv A outer s H vs Q E hgd hr h => ?_)
  · obtain ⟨v, s, h, lk, pt, st, hp, rfl, _⟩ := h
    rfl
  · obtain ⟨v, sa, ha, lk, pt, st, hp, rfl, hd, hs, hh, oks, ok, knl, knp, lpt, k⟩ := h
    have kno : takenS st hp lk pt = none → ∀ H', Same H H' → Q .non H' := fun e => by
      rw [e] at k
      exact k
    have kyes : ∀ T, takenS st hp lk pt = some T → ∀ (N : Addr) (as : List Addr) (rds : List (List Int)) (H' : Hp), Same H H' → H' N = some (.lst (as.map V.ref)) → Paired (fun a rd => H' a = some (.lst (rd.map V.int))) as rds → rds.flatten = T → Q (.ref N) H' := fun T e => by
      rw [e] at k
      exact k
    have hd0 := hd
    obtain ⟨a, xs, rfl, hT, hA⟩ := hd.tupI
    cases hA with
    | cons h1 hA =>
      cases hA with
      | cons h2 hA =>
        cases hA
        obtain ⟨b, ys, rfl, bT, bl, bA⟩ := rows_at h2
        refine ⟨_, (pss_cons (ps_if (pt_not (pt_val (pe_d D_l_looks_true hgd hr (pa_cons (pv 0) (pa_cons (pv 1) pa_nil))))) (pss_one (ps_ret pe_non)) pss_nil)
      (pss_cons (ps_asg (pe_tup (pa_cons (pe_lst pa_nil) (pa_cons (pe_lst pa_nil) pa_nil))) (pg_tup rfl (pgs_cons (pg_name (i := 3) sc_l_roads.nd rfl (.inl rfl)) (pgs_cons (pg_name (i := 4) sc_l_roads.nd rfl (.inr rfl)) pgs_nil))))
      (pss_cons (ps_for PassesOwn.never rfl (pi_tup (pe_ix ix_tup (pv 0) pe_int (fun _ _ => rfl))) (pg_name (i := 5) sc_l_roads.nd rfl (.inl rfl))
      (pss_cons (ps_set (i := 6) sc_l_roads.nd rfl (.inl rfl) (pe_d D_l_road hgd hr (pa_cons (pv 5) (pa_cons (pv 1) (pa_cons (pv 2) pa_nil)))))
      (pss_cons (ps_if (PW.pt (pw_or (pt_cmpR op_isN (pv 6) pe_non (nomark _)) (pw_or1 (pt_cmpR (op_neD hr.units) (pe_lc (own := [("at", 7)]) (g := gName 7) (tt := tTest (tOp (rIn K false) (tVar 7) (tVar 4))) (te := tVar 7) rfl sc_l_roads.nd (pi_list (pv 6)) (blkOk_by (own := [("at", 7)]) (N := ["clause", "store", "heap", "roads", "seen", "part", "road", "at"]) (sc := defScope s_l_roads) (by decide +kernel)) (fun _ _ _ _ _ => pg_name (i := 7) sc_l_roads.nd rfl (.inl rfl)) (fun _ _ _ _ _ => (pts_one (pt_cmpR op_in_seq (pv 7) (pv 4) (by rfl)))) (fun _ _ _ _ _ => (pv 7))) (pe_lst pa_nil) (nomark _))))) (pss_one (ps_ret pe_non)) pss_nil)
      (pss_cons (ps_expr (pe_bm PySem.F.plainAttrs_list PySem.F.slot_list_extend PySem.F.type_list_extend mt_extend (pv 4) (pa_cons (pv 6) pa_nil)))
      (pss_one (ps_expr (pe_bm PySem.F.plainAttrs_list PySem.F.slot_list_append PySem.F.type_list_append mt_append (pv 3) (pa_cons (pv 6) pa_nil))))))))
      (pss_one (ps_ret (pv 3)))))), ?_⟩
        refine ⟨_, rfl, _, rfl, _, sa, lk, pt, st, rfl, hd0, hs, oks, knl, fun H1 q1 => ⟨_, rfl, iteNot (fun hl => ?_) (fun hl => ?_)⟩⟩
        · exact kno (by unfold takenS takenF; rw [if_neg (by rw [hl]; exact Bool.false_ne_true)]) H1 q1
        · have tk : takenS st hp lk pt = partsF (keysH hp) (mapH hp) (wF st) [] pt := by unfold takenS takenF; rw [if_pos hl]
          rw [tk] at kno kyes
          refine ⟨Nat.zero_le _, fun R hR => ⟨Nat.zero_le _, fun N hN => ⟨by show 2 ≤ sizeLine; decide, fun t ht => ⟨t, _, rfl, SqT.of upd_same, rfl, _, _, rfl, _, _, rfl, rfl, ?_⟩⟩⟩⟩
          have nRN : R ≠ N := fun e => by
            rw [e, upd_same] at hN
            cases hN
          have nNt : N ≠ t := fun e => by
            rw [e, upd_same] at ht
            cases ht
          have nRt : R ≠ t := fun e => by
            rw [← e, upd_ne nRN, upd_same] at ht
            cases ht
          have none_ : ∀ {b : Addr} {H2 : Hp}, Same H H2 → H2 b = none → H b = none := fun {b H2} q e => by
            cases e2 : H b with
            | none => rfl
            | some o =>
              rw [q _ _ e2] at e
              cases e
          have hR0 := none_ q1 hR
          have hN0 := none_ (q1.trans (sameAdd hR)) hN
          have qq : Same H (upd (upd (upd H1 R (.lst [])) N (.lst [])) t (.tup [.ref R, .ref N])) := ((q1.trans (sameAdd hR)).trans (sameAdd hN)).trans (sameAdd ht)
          have hRR : (upd (upd (upd H1 R (.lst [])) N (.lst [])) t (.tup [.ref R, .ref N])) R = some (.lst (([] : List Addr).map V.ref)) := by rw [upd_ne nRt, upd_ne nRN, upd_same]; rfl
          have hNN : (upd (upd (upd H1 R (.lst [])) N (.lst [])) t (.tup [.ref R, .ref N])) N = some (.lst (([] : List Int).map V.int)) := by rw [upd_ne nNt, upd_same]; rfl
          dsimp only [gName, List.set]
          generalize upd (upd (upd H1 R (.lst [])) N (.lst [])) t (.tup [.ref R, .ref N]) = H2 at qq hRR hNN ⊢
          refine ⟨_, rfl, a, _, 1, .ref b, rfl, rfl, sameT qq hT, rfl, b, rfl, ⟨_, sameT qq bT⟩, for_tup (K := K) (a := b) (xs := ys) (fun i σ H3 => ∃ o5 o6 o7 Tk as rds, σ = [some (.ref a), some (.ref sa), some (.ref ha), some (.ref R), some (.ref N), o5, o6, o7] ∧ Same H H3 ∧ H3 R = some (.lst (as.map V.ref)) ∧
              H3 N = some (.lst (Tk.map V.int)) ∧ Paired (fun (a : Addr) (rd : List Int) => H3 a = some (.lst (rd.map V.int))) as rds ∧ (∀ a ∈ as, a ≠ R ∧ a ≠ N) ∧ rds.flatten = Tk ∧ as.length = i ∧ Once (keysH hp) Tk ∧ partsF (keysH hp) (mapH hp) (wF st) [] pt = partsF (keysH hp) (mapH hp) (wF st) Tk (pt.drop i))
            ⟨_, _, _, [], [], [], rfl, qq, hRR, hNN, .nil, fun x hx => absurd hx List.not_mem_nil, rfl, rfl, Once.nil, rfl⟩ (fun i σ H3 _ ⟨_, _, _, _, _, _, _, q, _⟩ => sameT q bT) ?_ ?_⟩
          · rintro i x σ H3 hx ⟨o5, o6, o7, Tk, as, rds, rfl, q3, hR3, hN3, pr3, off, fl, la, on, pf⟩
            obtain ⟨r, t, hr1, rfl, tT⟩ := bA i x hx
            obtain ⟨k1, k2⟩ := knp r (List.mem_of_getElem? hr1)
            have li : i < pt.length := (List.getElem?_eq_some_iff.mp hr1).1
            rw [drop_row hr1, partsF, part_eq, partL] at pf
            dsimp only [gName, List.set]
            refine ⟨_, rfl, _, rfl, _, rfl, .ref t, sa, ha, r, st, hp, rfl, .tup (sameT q3 tT) (.cons (.str _) (.cons (.str _) (.cons (.str _) .nil))), hs.same q3, hh.same q3, oks, ok, k1, k2, ?_⟩
            cases e : partR (keysH hp) (mapH hp) (wF st) r with
            | none =>
              intro H4 q4
              rw [e] at pf
              exact ⟨_, rfl, rfl, true, by simp, kno pf H4 (q3.trans q4)⟩
            | some rd =>
              intro M H4 q4 hM0 hM
              rw [e, Option.bind_some] at pf
              have q04 := q3.trans q4
              refine ⟨_, rfl, rfl, false, by simp, ?_⟩
              have hN4 := q4 _ _ hN3
              have hR4 := q4 _ _ hR3
              have nMR : M ≠ R := fun z => by
                rw [z, hR3] at hM0
                cases hM0
              have nMN : M ≠ N := fun z => by
                rw [z, hN3] at hM0
                cases hM0
              have lTk : Tk.length ≤ 2000 := by
                have := once_len on
                have hl := ok.2
                unfold keysH at this
                rw [List.length_map] at this
                omega
              have lrd : rd.length ≤ 2000 := by
                have on1 : Once (keysH hp) rd := by
                  have pe := part_eq (keysH hp) (mapH hp) (wF st) [] r
                  have fr : freeOf [] rd = true := List.all_eq_true.mpr fun x _ => by simp
                  rw [partL, e, Option.bind_some, if_pos fr, List.nil_append] at pe
                  exact partP_once _ _ _ Once.nil pe
                have := once_len on1
                have hl := ok.2
                unfold keysH at this
                rw [List.length_map] at this
                omega
              refine ⟨_, rfl, M, rfl, ⟨_, SqL.of hM⟩, fun D hD => lc_list (K := K) (a := M) (xs := rd.map V.int) (fun j H5 => Same H4 H5 ∧ H5 D = some (.lst (((rd.take j).filter fun x => decide (x ∈ Tk)).map V.int))) ⟨sameAdd hD, upd_same⟩ (fun j H5 _ q => SqL.of (q.1 _ _ hM)) ?_ ?_⟩
              · rintro j y H5 hy ⟨q5, hD5⟩
                rw [List.getElem?_map] at hy
                obtain ⟨z, hz, rfl⟩ := Option.map_eq_some_iff.mp hy
                have lj := (List.getElem?_eq_some_iff.mp hz).1
                have et : ((rd.take (j + 1)).filter fun x => decide (x ∈ Tk)) = ((rd.take j).filter fun x => decide (x ∈ Tk)) ++ if decide (z ∈ Tk) = true then [z] else [] := by
                  rw [List.take_add_one, hz, Option.toList_some, List.filter_append, List.filter_cons, List.filter_nil]
                refine ⟨rfl, _, rfl, _, rfl, N, _, rfl, .inl (SqL.of (q5 _ _ hN4)), rfl, flat_ints Tk, _, rfl, ?_⟩
                show if inV (.int z) (Tk.map V.int) = true then _ else _
                rw [inV_int]
                refine iteB (fun hb => ?_) (fun hb => ?_)
                · rw [if_pos hb] at et
                  refine ⟨_, rfl, _, hD5, ?_, sameOut q5 hD, ?_⟩
                  · rw [List.length_map]
                    have h2 := List.length_filter_le (fun x : Int => decide (x ∈ Tk)) (rd.take j)
                    rw [List.length_take] at h2
                    exact small2000 (by omega)
                  · rw [upd_same, et, List.map_append]
                    rfl
                · rw [if_neg (by rw [hb]; exact Bool.false_ne_true), List.append_nil] at et
                  exact ⟨q5, by rw [et]; exact hD5⟩
              · rintro H5 ⟨q5, hD5⟩
                rw [List.length_map, List.take_length] at hD5
                refine ⟨Nat.zero_le _, fun Z hZ => ?_⟩
                have nDZ : D ≠ Z := ne_of_none hD5 hZ
                refine ⟨.list ((rd.filter fun x => decide (x ∈ Tk)).map PyData.int), .list [], .lst (SqL.of (by rw [upd_ne nDZ]; exact hD5)) (dp_ints _), .lst (SqL.of upd_same) .nil, shaped_ints _, rfl, _, rfl, ?_⟩
                rw [eqv_nilI, free_filter]
                have q06 : Same H (upd H5 Z (.lst [])) := (q04.trans q5).trans (sameAdd hZ)
                have q46 : Same H4 (upd H5 Z (.lst [])) := q5.trans (sameAdd hZ)
                generalize upd H5 Z (.lst []) = H6 at q06 q46 ⊢
                refine iteNot (fun hb => ?_) (fun hb => ?_)
                · rw [if_neg (by rw [hb]; exact Bool.false_ne_true)] at pf
                  exact kno pf H6 q06
                · rw [if_pos hb, Option.bind_some] at pf
                  have on2 : Once (keysH hp) (Tk ++ rd) := by
                    have pe := part_eq (keysH hp) (mapH hp) (wF st) Tk r
                    rw [partL, e, Option.bind_some, if_pos hb] at pe
                    exact partP_once _ _ _ on pe
                  refine ⟨_, rfl, .inl ⟨rfl, _, SqL.of (q46 _ _ hN4)⟩, _, rfl, N, M, _, _, rfl, rfl, q46 _ _ hN4, q46 _ _ hM, by rw [List.length_map, List.length_map]; exact sum4000 lTk lrd, ?_⟩
                  have hR7 : (upd H6 N (.lst (Tk.map V.int ++ rd.map V.int))) R = some (.lst (as.map V.ref)) := by rw [upd_ne nRN]; exact q46 _ _ hR4
                  refine ⟨_, rfl, .inl ⟨rfl, _, SqL.of hR7⟩, _, rfl, R, _, _, rfl, rfl, hR7, by rw [List.length_map, la]; exact small2000 (by omega), ?_⟩
                  refine ⟨_, _, _, Tk ++ rd, as ++ [M], rds ++ [rd], rfl, sameOut (sameOut q06 hN0) hR0, by rw [upd_same, List.map_append]; rfl, by rw [upd_ne nRN.symm, upd_same, List.map_append], ?_, fun x hx => ?_, by rw [List.flatten_append, fl]; simp, by rw [List.length_append, la]; rfl, on2, pf⟩
                  · refine pairs_snoc (LiI_pairs pr3 off fun x xs nR nN ex => ?_) ?_
                    · rw [upd_ne nR, upd_ne nN]
                      exact q46 _ _ (q4 _ _ ex)
                    · rw [upd_ne nMR, upd_ne nMN]
                      exact q46 _ _ hM
                  · rcases List.mem_append.mp hx with hx | hx
                    · exact off x hx
                    · rw [List.mem_singleton.mp hx]
                      exact ⟨nMR, nMN⟩
          · rintro σ H3 ⟨o5, o6, o7, Tk, as, rds, rfl, q3, hR3, hN3, pr3, off, fl, la, on, pf⟩
            rw [bl, List.drop_length] at pf
            exact ⟨_, rfl, kyes Tk pf R as rds H3 q3 hR3 pr3 fl⟩
theorem D_l_part (T : Txt K mg) : Df P w K mg base 4 "_law_part" ["clause", "store", "heap"] (spPartL K) := by
  have D_l_roads := D_l_roads (P := P) (w := w) (base := base) T
  obtain ⟨f, fd, S⟩ := T.d_l_part
  refine Df.mk' (k := 3) S sc_l_part (fun vs H Q E h => ?_) (fun cdv A outer s H vs Q E hgd hr h => ?_)
  · obtain ⟨v, s, h, lk, pt, st, hp, rfl, _⟩ := h
    rfl
  · obtain ⟨v, sa, ha, lk, pt, st, hp, rfl, hd, hs, hh, oks, ok, knl, knp, lpt, k⟩ := h
    have hu := hu_of hr
    refine ⟨_, (pss_cons (ps_set (i := 3) sc_l_part.nd rfl (.inl rfl) (pe_d D_l_roads hgd hr (pa_cons (pv 0) (pa_cons (pv 1) (pa_cons (pv 2) pa_nil)))))
      (pss_cons (ps_if (pt_cmpR op_isN (pv 3) pe_non (nomark _)) (pss_one (ps_ret pe_non)) pss_nil)
      (pss_cons (ps_set (i := 4) sc_l_part.nd rfl (.inr rfl) pe_dnewK)
      (pss_cons (ps_for PassesOwn.never rfl (pi_list (pv 3)) (pg_name (i := 5) sc_l_part.nd rfl (.inl rfl))
      (pss_one (ps_for PassesOwn.never rfl (pi_list (pv 5)) (pg_name (i := 6) sc_l_part.nd rfl (.inl rfl))
      (pss_one (ps_dput hu (pv 4) (pv 6) pe_bl rfl)))))
      (pss_one (ps_ret (pe_callTy call_tuple_of (by rfl) T.b_tuple (by decide +kernel) (pa_cons (pe_lc (own := [("cell", 7)]) (g := gName 7) (tt := tB (tDIn (tOp (rIxT K) (tVar 7) (tC (.int 0))) (tVar 4))) (te := tVar 7) rfl sc_l_part.nd (pi_tup (pv 2)) (blkOk_by (own := [("cell", 7)]) (N := ["clause", "store", "heap", "roads", "taken_v", "road", "at", "cell"]) (sc := defScope s_l_part) (by decide +kernel)) (fun _ _ _ _ _ => pg_name (i := 7) sc_l_part.nd rfl (.inl rfl)) (fun _ _ _ _ _ => (pts_one (pt_cmp (pc_din hu (pe_ix ix_tup (pv 7) pe_int (fun _ _ => rfl)) (pv 4))))) (fun _ _ _ _ _ => (pv 7))) pa_nil)))))))), ?_⟩
    obtain ⟨ys, yP, yl, yA⟩ := pairs_at hh
    refine ⟨_, rfl, _, rfl, _, rfl, v, sa, ha, lk, pt, st, hp, rfl, hd, hs, hh, oks, ok, knl, knp, lpt, ?_⟩
    cases e : takenS st hp lk pt with
    | none =>
      intro H1 q1
      have ed : dueP st hp lk pt = .none := by unfold dueP; rw [e]
      refine ⟨_, rfl, rfl, true, by simp, ?_⟩
      refine k _ _ q1 ?_
      rw [ed]
      exact .non
    | some Tk =>
      intro R as rds H1 q1 hR pr fl
      have ed : dueP st hp lk pt = heapD (hp.filter fun c => decide (c.1 ∈ Tk)) := by unfold dueP; rw [e]
      have on : Once (keysH hp) Tk := takenF_once e
      have lTk : Tk.length ≤ 2000 := by
        have := once_len on
        have hl := ok.2
        unfold keysH at this
        rw [List.length_map] at this
        omega
      refine ⟨_, rfl, rfl, false, by simp, ?_⟩
      refine fun D hD => ?_
      dsimp only [gName, List.set]
      have la := paired_len pr
      refine ⟨_, rfl, R, rfl, ⟨_, SqL.of (sameAdd hD _ _ hR)⟩, for_list (K := K) (a := R) (xs := as.map V.ref) (fun i σ H2 => ∃ o5 o6 o7, σ = [some v, some (.ref sa), some (.ref ha), some (.ref R), some (.ref D), o5, o6, o7] ∧ Same H1 H2 ∧ H2 D = some (.dK (marks (rds.take i).flatten)))
        ⟨_, _, _, rfl, sameAdd hD, upd_same⟩ (fun i σ H2 _ ⟨_, _, _, _, q, _⟩ => SqL.of (q _ _ hR)) ?_ ?_⟩
      · rintro i x σ H2 hx ⟨o5, o6, o7, rfl, q2, hD2⟩
        rw [List.getElem?_map] at hx
        obtain ⟨M, hM, rfl⟩ := Option.map_eq_some_iff.mp hx
        obtain ⟨rd, hrd, hMv⟩ := LiI.paired_get pr hM
        have sp : Tk = (rds.take i).flatten ++ (rd ++ (rds.drop (i + 1)).flatten) := by
          rw [← fl]
          obtain ⟨li, e⟩ := List.getElem?_eq_some_iff.mp hrd
          conv => lhs; rw [← List.take_append_drop i rds, List.flatten_append, List.drop_eq_getElem_cons li, e, List.flatten_cons]
        dsimp only [gName, List.set]
        refine ⟨_, rfl, M, rfl, ⟨_, SqL.of (q2 _ _ hMv)⟩, for_list (K := K) (a := M) (xs := rd.map V.int) (fun j σ H3 => ∃ o6 o7, σ = [some v, some (.ref sa), some (.ref ha), some (.ref R), some (.ref D), some (.ref M), o6, o7] ∧ Same H1 H3 ∧ H3 D = some (.dK (marks ((rds.take i).flatten ++ rd.take j))))
          ⟨_, _, rfl, q2, by rw [List.take_zero, List.append_nil]; exact hD2⟩ (fun j σ H3 _ ⟨_, _, _, q, _⟩ => SqL.of (q _ _ hMv)) ?_ ?_⟩
        · rintro j y σ H3 hy ⟨o6, o7, rfl, q3, hD3⟩
          rw [List.getElem?_map] at hy
          obtain ⟨z, hz, rfl⟩ := Option.map_eq_some_iff.mp hy
          obtain ⟨lj, ej⟩ := List.getElem?_eq_some_iff.mp hz
          have s2 : Tk = ((rds.take i).flatten ++ rd.take j) ++ (z :: (rd.drop (j + 1) ++ (rds.drop (i + 1)).flatten)) := by
            rw [sp]
            conv => lhs; rw [← List.take_append_drop j rd, List.drop_eq_getElem_cons lj, ej]
            simp [List.append_assoc]
          have hz2 : ¬ z ∈ (rds.take i).flatten ++ rd.take j := fun q => by
            have nd := on.1
            rw [s2] at nd
            exact (List.nodup_append.mp nd).2.2 z q z List.mem_cons_self rfl
          have lp : ((rds.take i).flatten ++ rd.take j).length < sizeLine := by
            have := congrArg List.length s2
            rw [List.length_append] at this
            exact small2000 (by omega)
          dsimp only [gName, List.set]
          refine ⟨_, rfl, _, rfl, D, _, rfl, put_m hD3 hz2 lp, ?_⟩
          exact ⟨_, _, rfl, sameOut q3 hD, by rw [upd_same, List.take_add_one, hz, Option.toList_some, List.append_assoc]⟩
        · rintro σ H3 ⟨o6, o7, rfl, q3, hD3⟩
          rw [List.length_map, List.take_length] at hD3
          exact ⟨_, _, _, rfl, q3, by rw [List.take_add_one, hrd, Option.toList_some, List.flatten_append]; simpa using hD3⟩
      · rintro σ H2 ⟨o5, o6, o7, rfl, q2, hD2⟩
        rw [List.length_map, la, List.take_length, fl] at hD2
        dsimp only [gName, List.set]
        have q03 := q1.trans q2
        have hD := hD2
        clear hD2
        refine ⟨_, rfl, ha, rfl, ⟨_, sameT q03 yP.sqT⟩, fun N hN => lc_tup (K := K) (a := ha) (xs := ys) (fun i H4 => Same H2 H4 ∧ ∃ us, H4 N = some (.lst us) ∧ us.length ≤ i ∧ DaAll K H us (((hp.take i).filter fun c => decide (c.1 ∈ Tk)).map pairD)) ⟨sameAdd hN, [], upd_same, Nat.le_refl _, .nil⟩ (fun i H4 _ q => sameT (q03.trans q.1) yP.sqT) ?_ ?_⟩
        · rintro i x H4 hx ⟨q4, us, hN4, ul, uA⟩
          obtain ⟨c, t, hc, rfl, tT⟩ := yA i x hx
          have hi := (List.getElem?_eq_some_iff.mp hc).1
          have et : ((hp.take (i + 1)).filter fun c => decide (c.1 ∈ Tk)) = ((hp.take i).filter fun c => decide (c.1 ∈ Tk)) ++ if decide (c.1 ∈ Tk) = true then [c] else [] := by
            rw [List.take_add_one, hc, Option.toList_some, List.filter_append, List.filter_cons, List.filter_nil]
          refine ⟨rfl, _, rfl, t, _, 0, .int c.1, rfl, rfl, sameT (q03.trans q4) tT, rfl, _, rfl, D, _, rfl, get_m (q4 _ _ hD), _, rfl, ?_⟩
          rw [is_m]
          refine iteB (fun hb => ?_) (fun hb => ?_)
          · rw [if_pos hb] at et
            refine ⟨_, rfl, us, hN4, ?_, sameOut q4 hN, _, upd_same, by rw [List.length_append]; exact Nat.add_le_add_right ul 1, ?_⟩
            · have := ok.2
              exact small2000 (by omega)
            · rw [et, List.map_append]
              exact uA.append (.cons (da_pair tT) .nil)
          · rw [if_neg (by rw [hb]; exact Bool.false_ne_true), List.append_nil] at et
            exact ⟨q4, us, hN4, Nat.le_succ_of_le ul, by rw [et]; exact uA⟩
        · rintro H4 ⟨q4, us, hN4, ul, uA⟩
          rw [yl, List.take_length] at uA
          refine ⟨N, us, rfl, .inl ⟨SqL.of hN4, fun l hl => ?_⟩⟩
          have q5 := (q03.trans q4).trans (sameAdd (o := .tup us) hl)
          refine k _ _ q5 ?_
          rw [ed]
          exact .tup (SqT.of upd_same) (uA.mono q5)
theorem D_l_lost (T : Txt K mg) : Df P w K mg base 1 "_law_lost" ["store", "heap"] (spLost K) := by
  obtain ⟨f, fd, S⟩ := T.d_l_lost
  refine Df.mk' (k := 0) S sc_l_lost (fun vs H Q E h => ?_) (fun cdv A outer s H vs Q E hgd hr h => ?_)
  · obtain ⟨s, h, st, hp, rfl, _⟩ := h
    rfl
  · obtain ⟨sa, ha, st, hp, rfl, hs, hh, oks, ok, k⟩ := h
    have hu := hu_of hr
    refine ⟨_, (pss_cons (ps_asg (pe_tup (pa_cons (pe_callTy (call_dictPT rfl) (by rfl) T.b_dict (by decide +kernel) (pa_cons (pv 1) pa_nil)) (pa_cons pe_dnewK pa_nil))) (pg_tup rfl (pgs_cons (pg_name (i := 2) sc_l_lost.nd rfl (.inl rfl)) (pgs_cons (pg_name (i := 3) sc_l_lost.nd rfl (.inr rfl)) pgs_nil))))
      (pss_cons (ps_for PassesOwn.never rfl (pi_tup (pv 0)) (pg_tup rfl (pgs_cons (pg_name (i := 4) sc_l_lost.nd rfl (.inl rfl)) (pgs_cons (pg_name (i := 5) sc_l_lost.nd rfl (.inl rfl)) pgs_nil)))
      (pss_one (ps_while PassesOwn.never (PW.pt (pw_and (pt_cmp (pc_din hu (pv 5) (pv 2))) (pw_and1 (pt_cmp (pc_dnotin hu (pv 5) (pv 3)))))) (pss_cons (ps_dput hu (pv 3) (pv 5) pe_bl rfl)
      (pss_one (ps_set (i := 5) sc_l_lost.nd rfl (.inl rfl) (pe_dget hu (pv 2) (pv 5) (fun _ _ => rfl))))))))
      (pss_one (ps_ret (pe_callTy call_tuple_of (by rfl) T.b_tuple (by decide +kernel) (pa_cons (pe_lc (X := (cxOf CX0 P w K mg base ["store", "heap", "cells", "seen", "name", "at", "value"] "_law_lost" (defScope s_l_lost) f cdv A outer s H E).nox) (own := [("at", 5), ("value", 6)]) (g := gTup K 2 (gCons (gName 5) (gCons (gName 6) gNil))) (tt := tB (tDNotIn (tVar 5) (tVar 3))) (te := tVar 5) rfl sc_l_lost.nd (pi_tup (pv 1)) (blkOk_by (own := [("at", 5), ("value", 6)]) (N := ["store", "heap", "cells", "seen", "name", "at", "value"]) (sc := defScope s_l_lost) (by decide +kernel)) (fun _ _ _ _ _ => pg_tup rfl (pgs_cons (pg_name (i := 5) sc_l_lost.nd rfl (.inl rfl)) (pgs_cons (pg_name (i := 6) sc_l_lost.nd rfl (.inl rfl)) pgs_nil))) (fun _ _ _ _ _ => (pts_one (pt_cmp (pc_dnotin hu (pv 5) (pv 3))))) (fun _ _ _ _ _ => (pv 5))) pa_nil)))))), ?_⟩
    obtain ⟨ys, yP, yl, yA⟩ := pairs_at hh
    obtain ⟨zs, zP, zl, zA⟩ := stores_at hs
    obtain ⟨ps, pl, pr⟩ := hh
    refine ⟨_, rfl, ha, ps, hpK hp, rfl, pl, pr, fun L hL => ?_⟩
    rw [merge_hp ok]
    have qL : Same H (upd H L (.dK (hpK hp))) := sameAdd hL
    have hL1 : (upd H L (.dK (hpK hp))) L = some (.dK (hpK hp)) := upd_same
    refine fun D hD => ⟨by show 2 ≤ sizeLine; decide, fun t ht => ⟨t, _, rfl, SqT.of upd_same, rfl, _, _, rfl, _, _, rfl, rfl, ?_⟩⟩
    have nLD : L ≠ D := fun e => by
      rw [e, upd_same] at hD
      cases hD
    have nDt : D ≠ t := fun e => by
      rw [e, upd_same] at ht
      cases ht
    have nLt : L ≠ t := fun e => by
      rw [← e, upd_ne nLD, upd_same] at ht
      cases ht
    have hD0 : H D = none := by
      cases e : H D with
      | none => rfl
      | some o =>
        rw [sameAdd hL _ _ e] at hD
        cases hD
    have qL : Same H (upd (upd (upd H L (.dK (hpK hp))) D (.dK [])) t (.tup [.ref L, .ref D])) := ((sameAdd hL).trans (sameAdd hD)).trans (sameAdd ht)
    have hL1 : (upd (upd (upd H L (.dK (hpK hp))) D (.dK [])) t (.tup [.ref L, .ref D])) L = some (.dK (hpK hp)) := by rw [upd_ne nLt, upd_ne nLD, upd_same]
    have hD1 : (upd (upd (upd H L (.dK (hpK hp))) D (.dK [])) t (.tup [.ref L, .ref D])) D = some (.dK (marks [])) := by rw [upd_ne nDt, upd_same]; rfl
    dsimp only [gName, List.set]
    generalize upd (upd (upd H L (.dK (hpK hp))) D (.dK [])) t (.tup [.ref L, .ref D]) = H1 at qL hL1 hD1 ⊢
    refine ⟨_, rfl, sa, rfl, ⟨_, sameT qL zP.sqT⟩, for_tup (K := K) (a := sa) (xs := zs) (fun i σ H2 => ∃ o4 o5 o6 Tk, σ = [some (.ref sa), some (.ref ha), some (.ref L), some (.ref D), o4, o5, o6] ∧ Same H H2 ∧ H2 L = some (.dK (hpK hp)) ∧ H2 D = some (.dK (marks Tk)) ∧
        Once (keysH hp) Tk ∧ metP hp st [] = metP hp (st.drop i) Tk) ⟨_, _, _, [], rfl, qL, hL1, hD1, Once.nil, rfl⟩ (fun i σ H2 _ ⟨_, _, _, _, _, q, _⟩ => sameT q zP.sqT) ?_ ?_⟩
    · rintro i x σ H2 hx ⟨o4, o5, o6, Tk, rfl, q2, hL2, hD2, on, mt⟩
      obtain ⟨c, t, hc, rfl, tT⟩ := zA i x hx
      rw [drop_row hc, metP] at mt
      refine ⟨t, _, rfl, sameT q2 tT, rfl, _, _, rfl, _, _, rfl, rfl, ?_⟩
      dsimp only [gName, List.set]
      refine ⟨fun m σ H3 => ∃ v T2, σ = [some (.ref sa), some (.ref ha), some (.ref L), some (.ref D), some (.str c.1), some (.int v), o6] ∧ m = msr (keysH hp) T2 ∧ Same H H3 ∧ H3 L = some (.dK (hpK hp)) ∧ H3 D = some (.dK (marks T2)) ∧ Once (keysH hp) T2 ∧
          reachF (keysH hp) (mapH hp) c.2 Tk = reachF (keysH hp) (mapH hp) v T2, ⟨_, c.2, Tk, rfl, rfl, q2, hL2, hD2, on, rfl⟩, ?_⟩
      rintro m σ H3 ⟨v, T2, rfl, rfl, q3, hL3, hD3, on3, rc⟩
      have stop : ¬ (v ∈ keysH hp ∧ ¬ v ∈ T2) → ∃ o4 o5 o6' Tk, ([some (.ref sa), some (.ref ha), some (.ref L), some (.ref D), some (.str c.1), some (.int v), o6] : St) = [some (.ref sa), some (.ref ha), some (.ref L), some (.ref D), o4, o5, o6'] ∧ Same H H3 ∧ H3 L = some (.dK (hpK hp)) ∧ H3 D = some (.dK (marks Tk)) ∧
          Once (keysH hp) Tk ∧ metP hp st [] = metP hp (st.drop (i + 1)) Tk := fun hn => by
        rw [reachF_no hn] at rc
        exact ⟨_, _, _, T2, rfl, q3, hL3, hD3, on3, by rw [mt, rc]⟩
      refine ⟨_, rfl, _, rfl, L, _, rfl, get_h hL3, _, rfl, ?_⟩
      rw [is_h]
      refine iteD (fun h1 => ?_) (fun h1 => ?_)
      · refine ⟨_, rfl, _, rfl, D, _, rfl, get_m hD3, _, rfl, ?_⟩
        rw [is_m]
        refine iteND (fun h2 => ?_) (fun h2 => ?_)
        · refine ⟨fun σ H4 => ∃ v T3, σ = [some (.ref sa), some (.ref ha), some (.ref L), some (.ref D), some (.str c.1), some (.int v), o6] ∧ msr (keysH hp) T3 < msr (keysH hp) T2 ∧ Same H H4 ∧ H4 L = some (.dK (hpK hp)) ∧ H4 D = some (.dK (marks T3)) ∧ Once (keysH hp) T3 ∧
              reachF (keysH hp) (mapH hp) c.2 Tk = reachF (keysH hp) (mapH hp) v T3, fun σ H4 ⟨v, T3, e1, lt, r⟩ => ⟨_, lt, v, T3, e1, rfl, r⟩, ?_⟩
          have lT : T2.length < sizeLine := by
            have := once_len on3
            have hl := ok.2
            unfold keysH at this
            rw [List.length_map] at this
            exact small2000 (by omega)
          refine ⟨_, rfl, _, rfl, D, _, rfl, put_m hD3 h2 lT, ?_⟩
          have hL4 : (upd H3 D (.dK (marks (T2 ++ [v])))) L = some (.dK (hpK hp)) := by rw [upd_ne nLD]; exact hL3
          refine ⟨_, rfl, _, rfl, L, _, rfl, get_hin hL4 h1, ?_⟩
          exact ⟨_, _, rfl, msr_lt h1 h2, sameOut q3 hD0, hL4, upd_same, on3.snoc h1 h2, by rw [rc, reachF_on h1 h2]⟩
        · exact stop fun q => q.2 h2
      · exact stop fun q => h1 q.1
    · rintro σ H2 ⟨o4, o5, o6, Tk, rfl, q02, hL2, hD2, on, mt⟩
      rw [zl, List.drop_length] at mt
      have mt : metP hp st [] = Tk := mt
      dsimp only [gName, List.set]
      refine ⟨_, rfl, ha, rfl, ⟨_, sameT q02 yP.sqT⟩, fun N hN => lc_tup (K := K) (a := ha) (xs := ys) (fun i H4 => Same H2 H4 ∧ H4 N = some (.lst (((hp.take i).filter fun c => !decide (c.1 ∈ Tk)).map fun c => V.int c.1))) ⟨sameAdd hN, upd_same⟩ (fun i H4 _ q => sameT (q02.trans q.1) yP.sqT) ?_ ?_⟩
      · rintro i x H4 hx ⟨q4, hN4⟩
        obtain ⟨c, t, hc, rfl, tT⟩ := yA i x hx
        have hi := (List.getElem?_eq_some_iff.mp hc).1
        have et : ((hp.take (i + 1)).filter fun c => !decide (c.1 ∈ Tk)) = ((hp.take i).filter fun c => !decide (c.1 ∈ Tk)) ++ if (!decide (c.1 ∈ Tk)) = true then [c] else [] := by
          rw [List.take_add_one, hc, Option.toList_some, List.filter_append, List.filter_cons, List.filter_nil]
        refine ⟨t, _, rfl, sameT (q02.trans q4) tT, rfl, _, _, rfl, _, _, rfl, rfl, ?_⟩
        refine ⟨rfl, _, rfl, _, rfl, D, _, rfl, get_m (q4 _ _ hD2), _, rfl, ?_⟩
        rw [is_m]
        refine iteB (fun hb => ?_) (fun hb => ?_)
        · rw [if_pos hb] at et
          refine ⟨_, rfl, _, hN4, ?_, sameOut q4 hN, ?_⟩
          · rw [List.length_map]
            have := ok.2
            have h2 := List.length_filter_le (fun c : Int × Int => !decide (c.1 ∈ Tk)) (hp.take i)
            rw [List.length_take] at h2
            exact small2000 (by omega)
          · rw [upd_same, et, List.map_append]
            rfl
        · rw [if_neg (by rw [hb]; exact Bool.false_ne_true), List.append_nil] at et
          exact ⟨q4, by rw [et]; exact hN4⟩
      · rintro H4 ⟨q4, hN4⟩
        rw [yl, List.take_length] at hN4
        refine ⟨N, _, rfl, .inl ⟨SqL.of hN4, fun l hl => ?_⟩⟩
        refine k _ _ ((q02.trans q4).trans (sameAdd hl)) ?_
        unfold lostP
        rw [mt]
        refine .tup (SqT.of upd_same) (daAll_of (by rw [List.length_map]) fun i x hx => ?_)
        rw [List.getElem?_map] at hx
        obtain ⟨c, hc, rfl⟩ := Option.map_eq_some_iff.mp hx
        exact ⟨c, hc, .int _⟩
end
end L2.Hx

/-! Rings and long lists: what is told beside what is due. -/
namespace L2.Hx
open PySem PySem.Spec PyProof.Rows
def Sm (n : Int) : Prop := n.natAbs.log2 < 1920
def HpSm (hp : Hl) : Prop := hp.length ≤ 1300 ∧ ∀ c ∈ hp, Sm c.1 ∧ Sm c.2
theorem pairD_okd {c : Int × Int} (h : Sm c.1 ∧ Sm c.2) : Okd 1 3849 (pairD c) := by
  refine Okd.tup (k := 0) (n := 1921) (m := 2) (fun z m => ?_) (Nat.le_refl 2)
  rcases List.mem_cons.mp m with rfl | m
  · exact ⟨decide_eq_true h.1, Nat.zero_le _, Nat.le_refl _⟩
  · rw [List.mem_singleton.mp m]
    exact ⟨decide_eq_true h.2, Nat.zero_le _, Nat.le_refl _⟩
theorem heapD_okd {hp : Hl} (h : HpSm hp) (f : Int × Int → Bool) : Okd 2 5300000 (heapD (hp.filter f)) := by
  refine Okd.tup (k := 1) (n := 3849) (m := 1300) (fun z m => ?_) ?_ (by decide)
  · obtain ⟨c, hc, rfl⟩ := List.mem_map.mp m
    exact pairD_okd (h.2 c (List.mem_filter.mp hc).1)
  · rw [List.length_map]
    exact Nat.le_trans (List.length_filter_le _ _) h.1
theorem heapD_okd0 {hp : Hl} (h : HpSm hp) : Okd 2 5300000 (heapD hp) := by
  have := heapD_okd h fun _ => true
  rw [List.filter_eq_self.mpr fun _ _ => rfl] at this
  exact this
theorem dueP_okd {st : Sl} {hp : Hl} {lk pt : List Row} (h : HpSm hp) : Okd 2 5300000 (dueP st hp lk pt) := by
  unfold dueP
  cases takenS st hp lk pt with
  | none => exact ⟨rfl, by simp [PyData.depth], by show 5 ≤ 5300000; decide⟩
  | some T => exact heapD_okd h _
theorem lostP_okd {st : Sl} {hp : Hl} (h : HpSm hp) : Okd 2 5300000 (lostP st hp) := by
  refine (Okd.tup (k := 0) (n := 1921) (m := 1300) (N := 5300000) (fun z m => ?_) ?_ (by decide)).mono
  · obtain ⟨c, hc, rfl⟩ := List.mem_map.mp m
    exact ⟨decide_eq_true (h.2 c (List.mem_filter.mp hc).1).1, Nat.zero_le _, Nat.le_refl _⟩
  · rw [List.length_map]
    exact Nat.le_trans (List.length_filter_le _ _) h.1
theorem three_okd {a b c : PyData} (ha : Okd 4 5300000 a) (hb : Okd 4 5300000 b) (hc : Okd 4 5300000 c) : Okd 5 16000000 (.list [a, b, c]) := by
  refine Okd.list (k := 4) (n := 5300000) (m := 3) (fun z m => ?_) (Nat.le_refl 3) (by decide)
  rcases List.mem_cons.mp m with rfl | m
  · exact ha
  · rcases List.mem_cons.mp m with rfl | m
    · exact hb
    · rw [List.mem_singleton.mp m]
      exact hc
theorem Da.nonI {K : PySem.W.Frag} {G : Hp} {v : V} (h : Da K G v .none) : v = .non := by
  cases h
  rfl
theorem str_same {z : Str} : (!decide (V.str z = V.str z)) = false := by rw [decide_eq_true rfl]; rfl
theorem str_same2 {z : Str} : decide (V.str z = V.str z) = true := decide_eq_true rfl
theorem ints_stay {K : PySem.W.Frag} {H H' : Hp} : ∀ {xs : List V} {ns : List Int}, DaAll K H xs (ns.map PyData.int) → DaAll K H' xs (ns.map PyData.int)
  | [], [], _ => .nil
  | _ :: _, n :: ns, .cons h t => by
    cases h
    exact .cons (.int n) (ints_stay t)
theorem sqT_stay {K : PySem.W.Frag} {H : Hp} {a L : Addr} {o : HO} {xs ys : List V} (h : SqT K H a xs) (hL : H L = some (.lst ys)) : SqT K (upd H L o) a xs := by
  rcases h with (q | ⟨o2, q⟩) | q
  · refine .inl (.inl ?_)
    rw [upd_ne fun e => ?_]
    · exact q
    · rw [e, hL] at q
      cases q
  · refine .inl (.inr ⟨o2, ?_⟩)
    rw [upd_ne fun e => ?_]
    · exact q
    · rw [e, hL] at q
      cases q
  · exact .inr q
theorem lost_stay {K : PySem.W.Frag} {H : Hp} {v : V} {st : Sl} {hp : Hl} {o : HO} {ys : List V} (h : Da K H v (lostP st hp)) (L : Addr) (hL : H L = some (.lst ys)) : Da K (upd H L o) v (lostP st hp) := by
  unfold lostP at h ⊢
  obtain ⟨a, xs, rfl, aT, aA⟩ := h.tupI
  refine .tup (sqT_stay aT hL) ?_
  have e : ((hp.filter fun c => !decide (c.1 ∈ metP hp st [])).map fun c => PyData.int c.1) = ((hp.filter fun c => !decide (c.1 ∈ metP hp st [])).map fun c => c.1).map PyData.int := by rw [List.map_map]; rfl
  rw [e] at aA ⊢
  exact ints_stay aA
def spRight (K : PySem.W.Frag) : Sp := fun vs H Q _ => ∃ v s h lk pt st hp b, vs = [v, .ref s, .ref h, .bl b] ∧ Da K H v (lclauseD lk pt) ∧ PrT K H s (stK st) ∧ PrT K H h (hpK hp) ∧ StOk st ∧ HpOk hp ∧ KnR st lk ∧ KnR st pt ∧ pt.length ≤ 1000 ∧
  Okd 4 1000000 (lclauseD lk pt) ∧ Okd 4 1000000 (storeD st) ∧ HpSm hp ∧ ∀ H', Same H H' → Q (.bl true) H'
theorem behindS {N I : St → Hp → Prop} {A : Prop} (main : (∀ σ H2, I σ H2 → N σ H2) → A) (fin : ∀ σ H2, I σ H2 → N σ H2) : A := main fin
section
variable {P : Program} {w : World} {K : PySem.W.Frag} {mg : Str → Option Value} {base : Heap}
theorem D_l_is_right (T : Txt K mg) : Df P w K mg base 5 "_law_is_right" ["clause", "store", "heap", "is_named"] (spRight K) := by
  have D_l_part := D_l_part (P := P) (w := w) (base := base) T
  have D_l_lost := D_l_lost (P := P) (w := w) (base := base) T
  have D_part_of := (DS_part_of (P := P) (w := w) (base := base) T).df
  have D_holds := (DS_holds (P := P) (w := w) (base := base) T).df
  have D_lost := (DS_lost (P := P) (w := w) (base := base) T).df
  have DK_part_of := (DS_part_of (P := P) (w := w) (base := base) T).kw (ks := ["heap", "clause", "store"]) (g := rot3) fun _ _ _ _ _ _ ws hl => match ws, hl with | [_, _, _], _ => rfl
  have DK_holds := (DS_holds (P := P) (w := w) (base := base) T).kw (ks := ["heap", "saying", "store"]) (g := rot3) fun _ _ _ _ _ _ ws hl => match ws, hl with | [_, _, _], _ => rfl
  have DK_lost := (DS_lost (P := P) (w := w) (base := base) T).kw (ks := ["heap", "store"]) (g := swap2) fun _ _ _ _ _ _ ws hl => match ws, hl with | [_, _], _ => rfl
  obtain ⟨f, fd, S⟩ := T.d_l_is_right
  refine Df.mk' (k := 4) S sc_l_is_right (fun vs H Q E h => ?_) (fun cdv A outer s H vs Q E hgd hr h => ?_)
  · obtain ⟨v, s, h, lk, pt, st, hp, b, rfl, _⟩ := h
    rfl
  · obtain ⟨v, sa, ha, lk, pt, st, hp, b, rfl, hd, hs, hh, oks, ok, knl, knp, lpt, oc, os, sm, k⟩ := h
    have okK := three_okd (oc.mono) (os.mono) ((heapD_okd0 sm).mono)
    obtain ⟨s1, s2, s3⟩ := okK.shown (by decide) (by decide)
    have okW : Okd 4 5300000 (.bool (wholeP st hp lk pt)) := ⟨rfl, Nat.zero_le _, by show 5 ≤ 5300000; decide⟩
    have okD := three_okd (dueP_okd (st := st) (lk := lk) (pt := pt) sm).mono okW (lostP_okd (st := st) sm).mono
    obtain ⟨t1, t2, t3⟩ := okD.shown (by decide) (by decide)
    have okE : Okd 2 5300000 (dueP st hp lk pt) := dueP_okd sm
    obtain ⟨r1, r2, r3⟩ := okE.shown (by decide) (by decide)
    refine ⟨_, (pss_cons (ps_par (i := 4) (j := 5) (by rfl) sc_l_is_right.nd rfl rfl (by decide) rfl rfl (pa_cons (pe_callB (call_repr hgd hr.units) (by rfl) T.b_repr (by decide +kernel) (pa_cons (pe_lst (pa_cons (pv 0) (pa_cons (pv 1) (pa_cons (pv 2) pa_nil)))) pa_nil)) (pa_cons (pe_d D_l_part hgd hr (pa_cons (pv 0) (pa_cons (pv 1) (pa_cons (pv 2) pa_nil)))) pa_nil)) (by rfl))
      (pss_cons (ps_set (i := 6) sc_l_is_right.nd rfl (.inl rfl) (pe_and (pe_cmpR op_notN (pv 5) pe_non (nomark _)) (pe_one (pe_cmpR op_eq (pe_callB call_len_seq (by rfl) T.b_len (by decide +kernel) (pa_cons (pv 5) pa_nil)) (pe_callB call_len_seq (by rfl) T.b_len (by decide +kernel) (pa_cons (pv 2) pa_nil)) (nomark _)))))
      (pss_cons (ps_if (pt_val (pv 3)) (pss_cons (ps_set (i := 7) sc_l_is_right.nd rfl (.inl rfl) (pe_lst (pa_cons (pe_kwg (g := rot3) DK_part_of hgd hr (pk_cons (pv 2) (pk_cons (pv 0) (pk_cons (pv 1) pk_nil))) rot3_rel) (pa_cons (pe_kwg (g := rot3) DK_holds hgd hr (pk_cons (pv 2) (pk_cons (pe_tup (pa_cons (pv 0) pa_nil)) (pk_cons (pv 1) pk_nil))) rot3_rel) pa_nil))))
      (pss_one (ps_expr (pe_bm PySem.F.plainAttrs_list PySem.F.slot_list_append PySem.F.type_list_append mt_append (pv 7) (pa_cons (pe_kwg (g := swap2) DK_lost hgd hr (pk_cons (pv 2) (pk_cons (pv 1) pk_nil)) swap2_rel) pa_nil))))) (pss_one (ps_set (i := 7) sc_l_is_right.nd rfl (.inl rfl) (pe_lst (pa_cons (pe_d D_part_of hgd hr (pa_cons (pv 0) (pa_cons (pv 1) (pa_cons (pv 2) pa_nil)))) (pa_cons (pe_d D_holds hgd hr (pa_cons (pe_tup (pa_cons (pv 0) pa_nil)) (pa_cons (pv 1) (pa_cons (pv 2) pa_nil)))) (pa_cons (pe_d D_lost hgd hr (pa_cons (pv 1) (pa_cons (pv 2) pa_nil))) pa_nil)))))))
      (pss_cons (ps_if (pt_cmpR op_ne (pe_callB (call_repr hgd hr.units) (by rfl) T.b_repr (by decide +kernel) (pa_cons (pv 7) pa_nil)) (pe_callB (call_repr hgd hr.units) (by rfl) T.b_repr (by decide +kernel) (pa_cons (pe_lst (pa_cons (pv 5) (pa_cons (pv 6) (pa_cons (pe_d D_l_lost hgd hr (pa_cons (pv 1) (pa_cons (pv 2) pa_nil))) pa_nil)))) pa_nil)) (nomark _)) (pss_one (ps_ret pe_bl)) pss_nil)
      (pss_one (ps_ret (pe_and (pe_cmpR op_eq (pe_callB (call_repr hgd hr.units) (by rfl) T.b_repr (by decide +kernel) (pa_cons (pe_lst (pa_cons (pv 0) (pa_cons (pv 1) (pa_cons (pv 2) pa_nil)))) pa_nil)) (pv 4) (nomark _)) (pe_one (pe_cmpR op_eq (pe_callB (call_repr hgd hr.units) (by rfl) T.b_repr (by decide +kernel) (pa_cons (pe_d D_part_of hgd hr (pa_cons (pv 0) (pa_cons (pv 1) (pa_cons (pv 2) pa_nil)))) pa_nil)) (pe_callB (call_repr hgd hr.units) (by rfl) T.b_repr (by decide +kernel) (pa_cons (pv 5) pa_nil)) (nomark _)))))))))), ?_⟩
    have daK : ∀ {G : Hp} {q : Addr}, Same H G → G q = none → Da K (upd G q (.lst [v, .ref sa, .ref ha])) (.ref q) (.list [lclauseD lk pt, storeD st, heapD hp]) := fun {G q} sm hq => by
      have sq := sm.trans (sameAdd (o := .lst [v, .ref sa, .ref ha]) hq)
      exact .lst upd_same (.cons (hd.mono sq) (.cons (da_store (hs.same sq)) (.cons (da_heap (hh.same sq)) .nil)))
    refine ⟨_, rfl, _, rfl, _, rfl, by show 3 ≤ sizeLine; decide, fun q hq => ?_⟩
    refine ⟨.ref q, _, _, rfl, Same.refl _, daK (Same.refl H) hq, s1, s2, s3, ?_⟩
    have q1 : Same H (upd H q (.lst [v, .ref sa, .ref ha])) := sameAdd hq
    generalize upd H q (.lst [v, .ref sa, .ref ha]) = H1 at q1 ⊢
    refine ⟨_, rfl, _, rfl, _, rfl, v, sa, ha, lk, pt, st, hp, rfl, hd.mono q1, hs.same q1, hh.same q1, oks, ok, knl, knp, lpt, fun u1 H2 q2 d1 => ⟨_, _, rfl, ?_⟩⟩
    have q02 := q1.trans q2
    dsimp only [gName, List.set]
    refine' behindS (I := fun σ H3 => σ = [some v, some (.ref sa), some (.ref ha), some (.bl b), some (.str (PyData.shown (.list [lclauseD lk pt, storeD st, heapD hp]))), some u1, some (.bl (wholeP st hp lk pt)), none] ∧ Same H H3 ∧ Da K H3 u1 (dueP st hp lk pt)) (fun fin => ?_) ?_
    rotate_left 1
    · cases e : takenS st hp lk pt with
      | none =>
        have ed : dueP st hp lk pt = .none := by unfold dueP; rw [e]
        have ew : wholeP st hp lk pt = false := by unfold wholeP; rw [e]
        have d0 := d1
        rw [ed] at d0
        cases d0.nonI
        refine ⟨_, rfl, rfl, false, by simp, if_no rfl ?_⟩
        refine fin _ _ ⟨?_, q02, d1⟩
        rw [ew]
        rfl
      | some Tk =>
        have ed : dueP st hp lk pt = heapD (hp.filter fun c => decide (c.1 ∈ Tk)) := by unfold dueP; rw [e]
        have ew : wholeP st hp lk pt = decide (Tk.length = hp.length) := by unfold wholeP; rw [e]
        have d0 := d1
        rw [ed] at d0
        obtain ⟨a, xs, rfl, aT, aA⟩ := d0.tupI
        obtain ⟨ys, yP, yl, yA⟩ := pairs_at hh
        refine ⟨_, rfl, rfl, true, by simp, ?_⟩
        refine ⟨_, rfl, a, xs, rfl, .inr aT, _, rfl, ha, ys, rfl, .inr (sameT q02 yP.sqT), rfl, ?_⟩
        refine fin _ _ ⟨?_, q02, d1⟩
        have el : decide (V.int (xs.length : Int) = V.int (ys.length : Int)) = wholeP st hp lk pt := by
          rw [ew, int_eq]
          have e1 : xs.length = Tk.length := by rw [aA.length, List.length_map, filter_len ok.1 (takenF_once e)]
          rw [e1, yl]
          by_cases h : Tk.length = hp.length
          · rw [h, decide_eq_true rfl, decide_eq_true rfl]
          · rw [decide_eq_false h]
            exact decide_eq_false (by omega)
        rw [← el]
        rfl
    · rintro σ H3 ⟨rfl, q03, d1⟩
      dsimp only
      refine' behindS (I := fun σ H4 => ∃ L, σ = [some v, some (.ref sa), some (.ref ha), some (.bl b), some (.str (PyData.shown (.list [lclauseD lk pt, storeD st, heapD hp]))), some u1, some (.bl (wholeP st hp lk pt)), some (.ref L)] ∧ Same H H4 ∧ Da K H4 u1 (dueP st hp lk pt) ∧ Da K H4 (.ref L) (.list [dueP st hp lk pt, .bool (wholeP st hp lk pt), lostP st hp])) (fun fin => ?_) ?_
      rotate_left 1
      · refine ⟨_, rfl, b, rfl, iteB (fun hb => ?_) (fun hb => ?_)⟩
        · refine ⟨_, rfl, _, rfl, _, rfl, rfl, v, sa, ha, lk, pt, st, hp, rfl, hd.mono q03, hs.same q03, hh.same q03, oks, ok, knl, knp, fun u2 H4 q4 d2 => ?_⟩
          have q04 := q03.trans q4
          refine ⟨_, rfl, _, rfl, by show 1 ≤ sizeLine; decide, fun t ht => ?_⟩
          have q05 := q04.trans (sameAdd (o := .tup [v]) ht)
          have q45 : Same H4 (upd H4 t (.tup [v])) := sameAdd ht
          have dv : Da K (upd H4 t (.tup [v])) (.ref t) (.tuple [lclauseD lk pt]) := .tup (SqT.of upd_same) (.cons (hd.mono q05) .nil)
          generalize upd H4 t (.tup [v]) = H5 at q05 q45 dv ⊢
          refine ⟨_, rfl, rfl, .ref t, sa, ha, lk, pt, st, hp, rfl, dv, hs.same q05, hh.same q05, oks, ok, knl, knp, fun H6 q6 => ⟨by show 2 ≤ sizeLine; decide, fun L hL => ?_⟩⟩
          have q06 := q05.trans q6
          have q46 := q45.trans q6
          dsimp only [gName, List.set]
          have hL7 : (upd H6 L (.lst [u2, .bl (wholeP st hp lk pt)])) L = some (.lst [u2, .bl (wholeP st hp lk pt)]) := upd_same
          have q07 := q06.trans (sameAdd (o := .lst [u2, .bl (wholeP st hp lk pt)]) hL)
          have q47 := q46.trans (sameAdd (o := .lst [u2, .bl (wholeP st hp lk pt)]) hL)
          have h4L : H4 L = none := by
            cases e : H4 L with
            | none => rfl
            | some o =>
              rw [q46 _ _ e] at hL
              cases hL
          have h0L : H L = none := by
            cases e : H L with
            | none => rfl
            | some o =>
              rw [q04 _ _ e] at h4L
              cases h4L
          have h3L : H3 L = none := by
            cases e : H3 L with
            | none => rfl
            | some o =>
              rw [q4 _ _ e] at h4L
              cases h4L
          generalize upd H6 L (.lst [u2, .bl (wholeP st hp lk pt)]) = H7 at hL7 q07 q47 ⊢
          refine ⟨_, rfl, .inl ⟨rfl, _, SqL.of hL7⟩, _, rfl, _, rfl, rfl, sa, ha, st, hp, rfl, hs.same q07, hh.same q07, oks, ok, fun u4 H8 q8 d4 => ?_⟩
          refine ⟨L, _, _, rfl, rfl, q8 _ _ hL7, by show 2 < sizeLine; decide, ?_⟩
          have q48 : Same H4 (upd H8 L (.lst ([u2, .bl (wholeP st hp lk pt)] ++ [u4]))) := sameOut (q47.trans q8) h4L
          dsimp only [gName, List.set]
          refine fin _ _ ⟨L, rfl, sameOut (q07.trans q8) h0L, d1.mono (q4.trans q48), .lst upd_same (.cons (d2.mono q48) (.cons (.bl _) (.cons ?_ .nil)))⟩
          exact lost_stay d4 L (q8 _ _ hL7)
        · refine ⟨_, rfl, _, rfl, _, rfl, v, sa, ha, lk, pt, st, hp, rfl, hd.mono q03, hs.same q03, hh.same q03, oks, ok, knl, knp, fun u2 H4 q4 d2 => ?_⟩
          have q04 := q03.trans q4
          refine ⟨_, rfl, by show 1 ≤ sizeLine; decide, fun t ht => ?_⟩
          have q05 := q04.trans (sameAdd (o := .tup [v]) ht)
          have q45 : Same H4 (upd H4 t (.tup [v])) := sameAdd ht
          have dv : Da K (upd H4 t (.tup [v])) (.ref t) (.tuple [lclauseD lk pt]) := .tup (SqT.of upd_same) (.cons (hd.mono q05) .nil)
          generalize upd H4 t (.tup [v]) = H5 at q05 q45 dv ⊢
          refine ⟨_, rfl, _, rfl, .ref t, sa, ha, lk, pt, st, hp, rfl, dv, hs.same q05, hh.same q05, oks, ok, knl, knp, fun H6 q6 => ?_⟩
          have q06 := q05.trans q6
          refine ⟨_, rfl, _, rfl, sa, ha, st, hp, rfl, hs.same q06, hh.same q06, oks, ok, fun u4 H7 q7 d4 => ⟨by show 3 ≤ sizeLine; decide, fun L hL => ?_⟩⟩
          have qL := sameAdd (o := .lst [u2, .bl (wholeP st hp lk pt), u4]) hL
          have q4L : Same H4 (upd H7 L (.lst [u2, .bl (wholeP st hp lk pt), u4])) := ((q45.trans q6).trans q7).trans qL
          dsimp only [gName, List.set]
          exact fin _ _ ⟨L, rfl, (q06.trans q7).trans qL, d1.mono (q4.trans q4L), .lst upd_same (.cons (d2.mono q4L) (.cons (.bl _) (.cons (d4.mono qL) .nil)))⟩
      · rintro σ H4 ⟨L, rfl, q04, d1, dL⟩
        refine ⟨_, rfl, .ref L, _, H4, rfl, Same.refl _, dL, t1, t2, t3, ?_⟩
        refine ⟨_, rfl, _, rfl, _, rfl, _, rfl, sa, ha, st, hp, rfl, hs.same q04, hh.same q04, oks, ok, fun u5 H5 q5 d5 => ⟨by show 3 ≤ sizeLine; decide, fun M hM => ?_⟩⟩
        have qM := sameAdd (o := .lst [u1, .bl (wholeP st hp lk pt), u5]) hM
        have dM : Da K (upd H5 M (.lst [u1, .bl (wholeP st hp lk pt), u5])) (.ref M) (.list [dueP st hp lk pt, .bool (wholeP st hp lk pt), lostP st hp]) := .lst upd_same (.cons (d1.mono (q5.trans qM)) (.cons (.bl _) (.cons (d5.mono qM) .nil)))
        have q06 := (q04.trans q5).trans qM
        have d1 := d1.mono (q5.trans qM)
        generalize upd H5 M (.lst [u1, .bl (wholeP st hp lk pt), u5]) = H6 at dM q06 d1 ⊢
        refine ⟨.ref M, _, H6, rfl, Same.refl _, dM, t1, t2, t3, rfl, _, rfl, ?_⟩
        rw [str_same]
        refine if_no rfl ?_
        dsimp only
        refine ⟨_, rfl, _, rfl, _, rfl, by show 3 ≤ sizeLine; decide, fun N hN => ?_⟩
        refine ⟨.ref N, _, _, rfl, Same.refl _, daK q06 hN, s1, s2, s3, _, rfl, rfl, true, by rw [str_same2], ?_⟩
        have q07 := q06.trans (sameAdd (o := .lst [v, .ref sa, .ref ha]) hN)
        have d1 := d1.mono (sameAdd (o := .lst [v, .ref sa, .ref ha]) hN)
        generalize upd H6 N (.lst [v, .ref sa, .ref ha]) = H7 at q07 d1 ⊢
        refine ⟨_, rfl, _, rfl, _, rfl, v, sa, ha, lk, pt, st, hp, rfl, hd.mono q07, hs.same q07, hh.same q07, oks, ok, knl, knp, fun u6 H8 q8 d6 => ?_⟩
        refine ⟨u6, _, H8, rfl, Same.refl _, d6, r1, r2, r3, ?_⟩
        refine ⟨_, rfl, u1, _, H8, rfl, Same.refl _, d1.mono q8, r1, r2, r3, rfl, ?_⟩
        rw [str_same2]
        exact k _ (q07.trans q8)
end
end L2.Hx

/-! Rings and long lists: the law's draws of lists and of chains. -/
namespace L2.Hx
open PySem PySem.Spec PyProof.Rows
/-- all that is new is held -/
theorem Wd.grow {p l : Addr} {G H H' : Hp} (W : Wd p l G H) (s : Same H H') : ∃ G2, Ext p l G H G2 H' ∧ ∀ b, H b = none → G2 b = H' b := by
  have hp : ∃ o, H p = some o := by
    obtain ⟨m, t, _, _, h⟩ := W.dk
    exact ⟨_, h⟩
  have hl : ∃ o, H l = some o := by
    obtain ⟨m, _, h⟩ := W.ls
    exact ⟨_, h⟩
  refine ⟨fun b => if (H b).isNone = true then H' b else G b, ⟨⟨fun b o q => ?_, ?_, ?_, ?_, ?_⟩, fun b o q => ?_, fun b o _ _ q => s _ _ q, fun b o q g => ?_⟩, fun b q => ?_⟩
  · split at q
    · exact q
    · exact s _ _ (W.same _ _ q)
  · obtain ⟨o, e⟩ := hp
    show (if (H p).isNone = true then H' p else G p) = none
    rw [e]
    exact W.gp
  · obtain ⟨o, e⟩ := hl
    show (if (H l).isNone = true then H' l else G l) = none
    rw [e]
    exact W.gl
  · obtain ⟨m, t, a, b, h⟩ := W.dk
    exact ⟨m, t, a, b, s _ _ h⟩
  · obtain ⟨m, a, h⟩ := W.ls
    exact ⟨m, a, s _ _ h⟩
  · show (if (H b).isNone = true then H' b else G b) = some o
    rw [W.same _ _ q]
    exact q
  · show (if (H b).isNone = true then H' b else G b) = none
    rw [q]
    exact g
  · show (if (H b).isNone = true then H' b else G b) = H' b
    rw [q]
    rfl
theorem perm_map_inv {α β : Type} {f : α → β} {ys zs : List β} (h : ys.Perm zs) : ∀ L : List α, zs = L.map f → ∃ M : List α, ys = M.map f ∧ M.Perm L := by
  induction h with
  | nil =>
    intro L e
    cases L with
    | nil => exact ⟨[], rfl, .refl _⟩
    | cons a L => cases e
  | cons x _ ih =>
    intro L e
    cases L with
    | nil => cases e
    | cons a L =>
      injection e with e1 e2
      obtain ⟨M, m1, m2⟩ := ih L e2
      exact ⟨a :: M, by rw [m1, e1]; rfl, m2.cons a⟩
  | swap x y l =>
    intro L e
    cases L with
    | nil => cases e
    | cons a L =>
      cases L with
      | nil => cases e
      | cons b L =>
        injection e with e1 e2
        injection e2 with e2 e3
        exact ⟨b :: a :: L, by rw [e1, e2, e3]; rfl, List.Perm.swap _ _ _⟩
  | trans _ _ ih1 ih2 =>
    intro L e
    obtain ⟨M2, e2, p2⟩ := ih2 L e
    obtain ⟨M1, e1, p1⟩ := ih1 M2 e2
    exact ⟨M1, e1, p1.trans p2⟩
theorem paired_map {α β γ : Type} {R : α → β → Prop} {f : γ → α} {g : γ → β} : ∀ {L : List γ}, (∀ q ∈ L, R (f q) (g q)) → Paired R (L.map f) (L.map g)
  | [], _ => .nil
  | q :: L, h => .cons (h q List.mem_cons_self) (paired_map fun x m => h x (List.mem_cons_of_mem _ m))
theorem zip_tup {H : Hp} : ∀ {ts : List Addr} {ns us : List Int}, Paired (fun (t : Addr) (q : V × V) => H t = some (.tup [q.1, q.2])) ts ((ns.map V.int).zip (us.map V.int)) → ∀ q ∈ ts.zip (ns.zip us), H q.1 = some (.tup [.int q.2.1, .int q.2.2])
  | [], _, _, _, q, m => absurd m List.not_mem_nil
  | _ :: _, [], _, h, _, _ => by cases h
  | _ :: _, _ :: _, [], h, _, _ => by cases h
  | t :: ts, n :: ns, u :: us, .cons h r, q, m => by
    rcases List.mem_cons.mp m with rfl | m
    · exact h
    · exact zip_tup r q m
/-- the pairs of a list, in another order, as a heap -/
theorem heap_of {H : Hp} {ts : List Addr} {ns us : List Int} {ys : List V} (h : Paired (fun (t : Addr) (q : V × V) => H t = some (.tup [q.1, q.2])) ts ((ns.map V.int).zip (us.map V.int))) (p : ys.Perm (ts.map V.ref)) :
    ∃ (ps : List Addr) (hp : Hl), ys = ps.map V.ref ∧ Paired (fun (p : Addr) (kv : Key × V) => H p = some (.tup [kV kv.1, kv.2])) ps (hpK hp) ∧ hp.Perm (ns.zip us) := by
  have hl : ts.length = (ns.zip us).length := by
    have := paired_len h
    rw [this, List.length_zip, List.length_zip, List.length_map, List.length_map]
  have e1 : (ts.zip (ns.zip us)).map (·.1) = ts := List.map_fst_zip (Nat.le_of_eq hl)
  have e2 : (ts.zip (ns.zip us)).map (·.2) = ns.zip us := List.map_snd_zip (Nat.le_of_eq hl.symm)
  have e3 : ts.map V.ref = (ts.zip (ns.zip us)).map fun q => V.ref q.1 := by
    conv => lhs; rw [← e1]
    rw [List.map_map]
    rfl
  obtain ⟨M, m1, m2⟩ := perm_map_inv p _ e3
  refine ⟨M.map (·.1), M.map (·.2), by rw [m1, List.map_map]; rfl, ?_, ?_⟩
  · unfold hpK
    rw [List.map_map]
    exact paired_map fun q m => zip_tup h q (m2.mem_iff.mp m)
  · have := m2.map (·.2)
    rw [e2] at this
    exact this
theorem heap_fine {ns us : List Int} {hp : Hl} (le : ns.length = us.length) (nd : ns.Nodup) (l : ns.length ≤ 1300) (sn : ∀ n ∈ ns, Sm n) (su : ∀ u ∈ us, Sm u) (p : hp.Perm (ns.zip us)) : HpOk hp ∧ HpSm hp := by
  have e1 : (ns.zip us).map (·.1) = ns := List.map_fst_zip (Nat.le_of_eq le)
  have lz : hp.length = ns.length := by
    rw [p.length_eq, List.length_zip, le, Nat.min_self]
  refine ⟨⟨?_, by omega⟩, by omega, fun c m => ?_⟩
  · have q : (keysH hp).Perm ns := by
      have := p.map (·.1)
      rw [e1] at this
      exact this
    exact q.nodup_iff.mpr nd
  · have q := List.of_mem_zip (p.mem_iff.mp m)
    exact ⟨sn _ q.1, su _ q.2⟩
theorem erase_ints : ∀ (ns : List Int) (j : Nat), (ns.map V.int).eraseIdx j = (ns.eraseIdx j).map V.int
  | [], _ => rfl
  | _ :: _, 0 => rfl
  | n :: ns, j + 1 => congrArg (V.int n :: ·) (erase_ints ns j)
/-- items in another order -/
def spShufI (K : PySem.W.Frag) : Sp := fun vs H Q _ => ∃ (p l : Addr) (G : Hp) (a : Addr) (ws : List Int), vs = [.ref p, .ref a] ∧ Wd p l G H ∧ SqL K H a (ws.map V.int) ∧ ws.length ≤ 1000 ∧
  ∀ (r : Addr) (ys : List Int) (G' H' : Hp), Ext p l G H G' H' → G' r = some (.lst (ys.map V.int)) → ys.Perm ws → Q (.ref r) H'
section
variable {P : Program} {w : World} {K : PySem.W.Frag} {mg : Str → Option Value} {base : Heap}
theorem D_l_shuffled (T : Txt K mg) : Df P w K mg base 2 "_law_shuffled" ["deck", "items"] (spShufI K) := by
  have D_l_draw := D_draw (P := P) (w := w) (base := base) T
  obtain ⟨f, fd, S⟩ := T.d_l_shuffled
  refine Df.mk' (k := 1) S sc_l_shuffled (fun vs H Q E h => ?_) (fun cdv A outer s H vs Q E hgd hr h => ?_)
  · obtain ⟨p, l, G, a, ws, rfl, _⟩ := h
    rfl
  · obtain ⟨p, l, G, a, ws, rfl, W, aL, lw, k⟩ := h
    have line5 : (5000 : Nat) ≤ sizeLine := by decide
    refine ⟨_, (pss_cons (ps_par (i := 2) (j := 3) (by rfl) sc_l_shuffled.nd rfl rfl (by decide) rfl rfl (pa_cons (pe_callTy call_list_of (by rfl) T.b_list (by decide +kernel) (pa_cons (pv 1) pa_nil)) (pa_cons (pe_lst pa_nil) pa_nil)) (by rfl))
      (pss_cons (ps_while PassesOwn.never (pt_cmpR (op_neD hr.units) (pv 2) (pe_lst pa_nil) (nomark _)) (pss_one (ps_expr (pe_bm PySem.F.plainAttrs_list PySem.F.slot_list_append PySem.F.type_list_append mt_append (pv 3) (pa_cons (pe_bm PySem.F.plainAttrs_list PySem.F.slot_list_pop PySem.F.type_list_pop mt_popAt (pv 2) (pa_cons (pe_d D_l_draw hgd hr (pa_cons (pv 0) (pa_cons (pe_callB call_len_seq (by rfl) T.b_len (by decide +kernel) (pa_cons (pv 2) pa_nil)) pa_nil))) pa_nil)) pa_nil)))))
      (pss_one (ps_ret (pv 3))))), ?_⟩
    refine ⟨_, rfl, a, ws.map V.int, rfl, .inl aL, fun q hq => ⟨Nat.zero_le _, fun r hr' => ⟨_, _, rfl, ?_⟩⟩⟩
    have nqr : q ≠ r := fun e => by
      rw [← e, upd_same] at hr'
      cases hr'
    have e1 := W.tmp (o := .lst (ws.map V.int)) hq
    have e2 := e1.w.tmp (o := .lst []) hr'
    have qp := W.np hq
    have ql := W.nl hq
    have rp := e1.w.np hr'
    have rl := e1.w.nl hr'
    have gq : G q = none := W.same.free hq
    have gr : G r = none := e1.w.same.free hr'
    have hr0 : H r = none := by
      cases z : H r with
      | none => rfl
      | some o2 =>
        rw [upd_ne nqr.symm, z] at hr'
        cases hr'
    have E2 := e1.trans W e2
    have q2 : (upd (upd H q (.lst (ws.map V.int))) r (.lst [])) q = some (.lst (ws.map V.int)) := by rw [upd_ne nqr, upd_same]
    have r2 : (upd (upd H q (.lst (ws.map V.int))) r (.lst [])) r = some (.lst (([] : List Int).map V.int)) := upd_same
    generalize upd (upd H q (.lst (ws.map V.int))) r (.lst []) = H2 at E2 q2 r2 ⊢
    refine ⟨fun m σ H3 => σ = [some (.ref p), some (.ref a), some (.ref q), some (.ref r)] ∧ ∃ xs ys : List Int, m = xs.length ∧ (xs ++ ys).Perm ws ∧ Ext p l G H G H3 ∧ H3 q = some (.lst (xs.map V.int)) ∧ H3 r = some (.lst (ys.map V.int)),
      ⟨ws.length, rfl, ws, [], rfl, by rw [List.append_nil], E2, q2, r2⟩, ?_⟩
    rintro m σ H3 ⟨rfl, xs, ys, rfl, pm, E3, q3, r3⟩
    have lxy : xs.length + ys.length = ws.length := by rw [← List.length_append]; exact pm.length_eq
    refine ⟨_, rfl, Nat.zero_le _, fun t ht => ?_⟩
    have nqt : q ≠ t := fun e => by
      rw [← e, q3] at ht
      cases ht
    have nrt : r ≠ t := fun e => by
      rw [← e, r3] at ht
      cases ht
    have E4 := E3.trans W (E3.w.tmp (o := .lst []) ht)
    have q4 : (upd H3 t (.lst [])) q = some (.lst (xs.map V.int)) := by rw [upd_ne nqt]; exact q3
    have r4 : (upd H3 t (.lst [])) r = some (.lst (ys.map V.int)) := by rw [upd_ne nrt]; exact r3
    refine ⟨.list (xs.map PyData.int), .list [], .lst (SqL.of q4) (dp_ints xs), .lst (SqL.of upd_same) .nil, shaped_ints xs, rfl, _, rfl, ?_⟩
    rw [eqv_nil]
    generalize upd H3 t (.lst []) = H4 at E4 q4 r4 ⊢
    refine iteNot (fun hn => ?_) (fun hn => ?_)
    · have ne : xs ≠ [] := of_decide_eq_false hn
      have pos : 0 < xs.length := List.length_pos_iff.mpr ne
      refine ⟨fun σ H5 => σ = [some (.ref p), some (.ref a), some (.ref q), some (.ref r)] ∧ ∃ xs2 ys2 : List Int, xs2.length < xs.length ∧ (xs2 ++ ys2).Perm ws ∧ Ext p l G H G H5 ∧ H5 q = some (.lst (xs2.map V.int)) ∧ H5 r = some (.lst (ys2.map V.int)),
        fun σ H5 ⟨e, xs2, ys2, lt, h⟩ => ⟨xs2.length, lt, e, xs2, ys2, rfl, h⟩, ?_⟩
      refine ⟨_, rfl, .inl ⟨rfl, _, SqL.of r4⟩, _, rfl, .inl ⟨rfl, _, SqL.of q4⟩, _, rfl, _, rfl, q, xs.map V.int, rfl, .inl (SqL.of q4), p, l, G, _, rfl, by rw [List.length_map]; omega, by rw [List.length_map]; omega, E4.w, fun d H5 d0 d1 e5 => ?_⟩
      rw [List.length_map] at d1
      have dn : d.toNat < xs.length := by omega
      have q5 := e5.keep _ _ qp ql q4
      have r5 := e5.keep _ _ rp rl r4
      have pm2 : (xs.eraseIdx d.toNat ++ (ys ++ [xs[d.toNat]])).Perm ws := by
        refine List.Perm.trans ?_ pm
        refine List.Perm.trans ?_ ((erase_perm xs d.toNat dn).append_right ys)
        rw [← List.append_assoc]
        exact List.perm_append_comm
      refine ⟨q, xs.map V.int, d, d.toNat, .int xs[d.toNat], rfl, rfl, q5, by omega, by omega, ?_, by rw [List.getElem?_map, List.getElem?_eq_getElem dn]; rfl, ?_⟩
      · rw [List.length_map]
        have d2 : ¬ d < 0 := by omega
        simp [seqIndex?, d2, d0, d1]
      · have E5 := (E4.trans W e5)
        have W6 := E5.w.own (o := .lst ((xs.map V.int).eraseIdx d.toNat)) qp ql gq
        refine ⟨r, ys.map V.int, _, rfl, rfl, by rw [upd_ne nqr.symm]; exact r5, by rw [List.length_map]; omega, rfl, xs.eraseIdx d.toNat, ys ++ [xs[d.toNat]], ?_, pm2, ?_, ?_, ?_⟩
        · rw [List.length_eraseIdx_of_lt dn]
          omega
        · refine ⟨W6.own rp rl gr, Same.refl G, fun b o n1 n2 hb => ?_, fun b o hb g => g⟩
          rw [upd_ne (ne_of_none hb hr0), upd_ne (ne_of_none hb hq)]
          exact E5.keep b o n1 n2 hb
        · rw [upd_ne nqr, upd_same, erase_ints]
        · rw [upd_same, List.map_append]
          rfl
    · have ne : xs = [] := of_decide_eq_true hn
      subst ne
      obtain ⟨W5, s5⟩ := E4.w.hold rp rl gr r4
      refine ⟨_, rfl, k r ys _ H4 ⟨W5, s5, E4.keep, fun b o hb g => ?_⟩ upd_same pm⟩
      rw [upd_ne (ne_of_none hb hr0)]
      exact g
end
end L2.Hx

/-! Rings and long lists: the law's chains. -/
namespace L2.Hx
open PySem PySem.Spec PyProof.Rows
def StepD (d : PyData) : Prop := ∃ n : Int, d = .int n ∧ 1 ≤ n ∧ n ≤ 10 ^ 30
theorem sm_of {n : Int} {k : Nat} (h : n.natAbs < 2 ^ k) (h0 : 0 < k := by decide) (hk : k < 1920 := by decide) : Sm n := Nat.lt_trans (PySem.Flt.log2_lt_of h0 h) hk
def atsF (st : Int) (n : Nat) : List Int := (List.range n).map fun k : Nat => 1 + st * (k : Int)
theorem atsF_len {st : Int} {n : Nat} : (atsF st n).length = n := by
  unfold atsF
  rw [List.length_map, List.length_range]
theorem atsF_succ {st : Int} {n : Nat} : atsF st (n + 1) = atsF st n ++ [1 + st * (n : Int)] := by
  unfold atsF
  rw [List.range_succ, List.map_append]
  rfl
theorem atsF_nodup {st : Int} {n : Nat} (h : 1 ≤ st) : (atsF st n).Nodup := by
  unfold atsF
  refine List.pairwise_map.mpr (List.nodup_range.imp fun {a b} ne e => ne ?_)
  have e2 : st * (a : Int) = st * (b : Int) := by omega
  have e3 := Int.eq_of_mul_eq_mul_left (by omega) e2
  omega
theorem atsF_sm {st : Int} {n : Nat} (h : 1 ≤ st) (h2 : st ≤ 10 ^ 30) (hn : n ≤ 1300) : ∀ x ∈ atsF st n, Sm x := fun x m => by
  obtain ⟨k, hk, rfl⟩ := List.mem_map.mp m
  have hk := List.mem_range.mp hk
  refine sm_of (k := 200) ?_
  have e1 : 0 ≤ st * (k : Int) := Int.mul_nonneg (by omega) (by omega)
  have e2 : st * (k : Int) ≤ 10 ^ 30 * 1300 := Int.mul_le_mul h2 (by omega) (by omega) (by decide)
  have e3 : (1 + (10 : Int) ^ 30 * 1300) < 2 ^ 200 := by decide +kernel
  have e4 : ((1 + st * (k : Int)).natAbs : Int) < ((2 ^ 200 : Nat) : Int) := by
    rw [Int.natAbs_of_nonneg (by omega)]
    have : ((2 ^ 200 : Nat) : Int) = 2 ^ 200 := by decide +kernel
    rw [this]
    omega
  exact Int.ofNat_lt.mp e4
theorem rgV_ats (many : Nat) : rgV 1 ((many : Int) + 1) = (atsF 1 many).map V.int := by
  have e : ((many : Int) + 1 - 1).toNat = many := by omega
  unfold rgV atsF
  rw [e, List.map_map]
  refine List.map_congr_left fun k _ => ?_
  show V.int (1 + (k : Int)) = V.int (1 + 1 * (k : Int))
  rw [Int.one_mul]
theorem at_int {ns : List Int} {i : Int} (h0 : 0 ≤ i) (h1 : i < ns.length) : ∃ n, atI (ns.map V.int) i = some (.int n) ∧ n ∈ ns := by
  obtain ⟨x, e, m⟩ := atI_nat2 (xs := ns.map V.int) h0 (by rw [List.length_map]; exact h1)
  obtain ⟨n, hn, rfl⟩ := List.mem_map.mp m
  exact ⟨n, e, hn⟩
theorem asg_by {t : TE} {σ : St} {H : Hp} {D : Ends} {i : Nat} {I : V → Hp → Prop} (h : ∀ Q : VK, (∀ u H2, I u H2 → Q u H2) → t σ H Q) (k : ∀ u H2, I u H2 → D.nx (σ.set i (some u)) H2) : tAsg t (gName i) D σ H := h _ k
theorem cut1 {xs : List V} (h : 1 ≤ xs.length) : cutV xs (some 1) none = xs.drop 1 := by
  have e : HT.sIx xs.length 0 (some 1) = 1 := by
    have := HT.sIx_nat xs.length 0 1
    rw [Nat.min_eq_left h] at this
    exact this
  unfold cutV
  rw [HT.sIx_none, e, List.take_of_length_le]
  rw [List.length_drop]
  exact Nat.le_refl _
theorem ref_of_zip {H : Hp} : ∀ {ts : List Addr} {ns us : List Int}, Paired (fun (t : Addr) (q : V × V) => H t = some (.tup [q.1, q.2])) ts ((ns.map V.int).zip (us.map V.int)) → ∀ x ∈ ts.map V.ref, ∃ t i j, x = V.ref t ∧ H t = some (.tup [.int i, .int j])
  | [], _, _, _, x, m => absurd m List.not_mem_nil
  | _ :: _, [], _, h, _, _ => by cases h
  | _ :: _, _ :: _, [], h, _, _ => by cases h
  | t :: ts, n :: ns, u :: us, .cons h r, x, m => by
    rcases List.mem_cons.mp m with rfl | m
    · exact ⟨t, n, u, rfl, h⟩
    · exact ref_of_zip r x m
theorem Same.none {H H' : Hp} {b : Addr} (s : Same H H') (h : H' b = none) : H b = none := by
  cases e : H b with
  | none => rfl
  | some o =>
    rw [s _ _ e] at h
    cases h
theorem paired_mono {α β : Type} {R S : α → β → Prop} : ∀ {xs : List α} {ys : List β}, (∀ a ∈ xs, ∀ b, R a b → S a b) → Paired R xs ys → Paired S xs ys
  | _, _, _, .nil => .nil
  | _, _, h, .cons a r => .cons (h _ List.mem_cons_self _ a) (paired_mono (fun x m => h x (List.mem_cons_of_mem _ m)) r)
def spChain (K : PySem.W.Frag) : Sp := fun vs H Q _ => ∃ (p l : Addr) (G : Hp) (many : Nat) (way : Int), vs = [.ref p, .int (many : Int), .int way] ∧ 1 ≤ many ∧ many ≤ 1300 ∧ 0 ≤ way ∧ way < 4 ∧ Wd p l G H ∧
  ∀ (q a h : Addr) (ns : List Int) (hp : Hl) (G2 H2 : Hp), Ext p l G H G2 H2 → SqT K H2 q [.ref a, .ref h] → G2 a = some (.lst (ns.map V.int)) → PrT K G2 h (hpK hp) → HpOk hp → HpSm hp → ns.length = many → (∀ n ∈ ns, Sm n) → Q (.ref q) H2
section
variable {P : Program} {w : World} {K : PySem.W.Frag} {mg : Str → Option Value} {base : Heap}
theorem td_step {p l : Addr} {σ : St} {G : Hp} {i : Int} (h0 : 1 ≤ i := by decide) (h1 : i ≤ 10 ^ 30 := by decide) : TD K p l σ G (tC (.int i)) StepD := .flat (fun _ => .int i) ⟨i, rfl, h0, h1⟩
theorem td_stepP {p l : Addr} {σ : St} {G : Hp} : TD K p l σ G (tOp (rI CPow fun i j => .int (i ^ j.toNat)) (tC (.int 10)) (tC (.int 30))) StepD := fun G1 H Q W s kk =>
  ⟨10, 30, rfl, rfl, ⟨by decide, by decide, by decide⟩, kk _ _ _ _ (Ext.refl W) (.int _) ⟨_, rfl, by decide, by decide⟩⟩
theorem D_l_chain (T : Txt K mg) : Df P w K mg base 3 "_law_chain" ["deck", "many", "way"] (spChain K) := by
  have D_l_draw := D_draw (P := P) (w := w) (base := base) T
  have D_l_pick := D_pick (P := P) (w := w) (base := base) T
  have D_l_shuffled := D_l_shuffled (P := P) (w := w) (base := base) T
  obtain ⟨f, fd, S⟩ := T.d_l_chain
  refine Df.mk' (k := 2) S sc_l_chain (fun vs H Q E h => ?_) (fun cdv A outer s H vs Q E hgd hr h => ?_)
  · obtain ⟨p, l, G, many, way, rfl, _⟩ := h
    rfl
  · obtain ⟨p, l, G, many, way, rfl, m1, m2, w0, w1, W, k⟩ := h
    refine ⟨_, (pss_cons (ps_set (i := 3) sc_l_chain.nd rfl (.inr rfl) (pe_d D_l_pick hgd hr (pa_cons (pv 0) (pa_cons (pe_lst (pa_cons pe_int (pa_cons pe_int (pa_cons pe_int (pa_cons (pe_op op_pow pe_int pe_int) pa_nil))))) pa_nil))))
      (pss_cons (ps_set (i := 4) sc_l_chain.nd rfl (.inl rfl) (pe_ifExp (pt_cmpR op_lt (pv 1) pe_int (nomark _)) (pe_d D_l_shuffled hgd hr (pa_cons (pv 0) (pa_cons (pe_lc (own := [("spot", 5)]) (g := gName 5) (tt := tYes) rfl sc_l_chain.nd (pi_range1 rfl T.b_range (pa_cons (pv 1) pa_nil)) (blkOk_by (own := [("spot", 5)]) (N := ["deck", "many", "way", "step_on", "ats", "spot", "ends"]) (sc := defScope s_l_chain) (by decide +kernel)) (fun _ _ _ _ _ => pg_name (i := 5) sc_l_chain.nd rfl (.inl rfl)) (fun _ _ _ _ _ => pts_nil) (fun _ _ _ _ _ => (pe_op op_add pe_int (pe_op op_mul (pv 3) (pv 5))))) pa_nil))) (pe_listRg rfl (by rfl) T.b_list (prg_2 (by rfl) T.b_range pe_int (pe_op op_add (pv 1) pe_int)))))
      (pss_cons (ps_set (i := 6) sc_l_chain.nd rfl (.inl rfl) (pe_lst (pa_cons pe_int (pa_cons (pe_ix ix_list (pv 4) pe_int (fun _ _ => rfl)) (pa_cons (pe_ix ix_list (pv 4) (pe_op op_fdivN (pv 1) pe_int) (fun _ _ => rfl)) (pa_cons (pe_op op_add (pe_op op_pow pe_int pe_int) pe_int) pa_nil))))))
      (pss_one (ps_ret (pe_tup (pa_cons (pv 4) (pa_cons (pe_callTy call_tuple_ofP (by rfl) T.b_tuple (by decide +kernel) (pa_cons (pe_callB cr_sortedP (by rfl) T.b_sorted (by decide +kernel) (pa_cons (Zx.pe_listZip rfl (by rfl) T.b_list (by rfl) T.b_zip (pa_cons (pv 4) (pa_cons (pe_op op_cat (pe_slice sl_list (pv 4) (po_some pe_int) po_none) (pe_lst (pa_cons (pe_ix ix_list (pv 6) (pv 2) (fun _ _ => rfl)) pa_nil))) pa_nil))) pa_nil)) pa_nil)) pa_nil)))))))), ?_⟩
    refine TD.asg (K := K) (p := p) (l := l) (G := G) (φ := StepD) (td_pick (td_lstF (tds_consF td_step (tds_consF td_step (tds_consF td_step (tds_consF td_stepP tds_nilF))))) rfl) W (fun v d G1 H1 e1 da1 f1 => ?_)
    obtain ⟨st, rfl, s0, s1⟩ := f1
    cases da1
    dsimp only [gName, List.set]
    refine asg_by (I := fun u H4 => ∃ (a : Addr) (ns : List Int) (G4 : Hp), u = .ref a ∧ Ext p l G H G4 H4 ∧ G4 a = some (.lst (ns.map V.int)) ∧ ns.Nodup ∧ ns.length = many ∧ ∀ n ∈ ns, Sm n) (fun Qn fin => ?_) ?_
    · refine ⟨_, rfl, _, _, rfl, rfl, _, rfl, iteB (fun hb => ?_) (fun hb => ?_)⟩
      · have hb := of_decide_eq_true hb
        refine ⟨_, rfl, _, rfl, many, rfl, by omega, by omega, fun D hD => lc_range (lo := 0) (n := many) (fun i H3 => Same H1 H3 ∧ H3 D = some (.lst ((atsF st i).map V.int))) ⟨sameAdd hD, upd_same⟩ ?_ ?_⟩
        · rintro i H3 hi ⟨e3, q3⟩
          dsimp only [gName, List.set]
          refine ⟨rfl, _, rfl, _, rfl, _, _, rfl, rfl, .inr ⟨by omega, by omega⟩, _, _, rfl, rfl, _, q3, ?_, sameOut e3 hD, ?_⟩
          · rw [List.length_map, atsF_len]
            have : 2000 ≤ sizeLine := by decide
            omega
          · rw [upd_same, atsF_succ, List.map_append, Int.zero_add]
            rfl
        · rintro H3 ⟨e3, q3⟩
          have x3 := e1.w.still e3
          refine ⟨p, l, G1, D, atsF st many, rfl, x3.w, SqL.of q3, by rw [atsF_len]; omega, fun r ys G4 H4 e4 g4 pm => ?_⟩
          refine fin _ _ ⟨r, ys, G4, rfl, (e1.trans W x3).trans W e4, g4, pm.nodup_iff.mpr (atsF_nodup s0), by rw [pm.length_eq, atsF_len], fun x m => atsF_sm s0 s1 m2 x (pm.mem_iff.mp m)⟩
      · refine ⟨_, rfl, _, _, rfl, rfl, _, _, rfl, rfl, RgOk.of_le (by omega) (by omega) (by omega) (by omega), fun q hq => ?_⟩
        have e4 := e1.w.put (o := .lst (rgV 1 ((many : Int) + 1))) hq
        refine fin _ _ ⟨q, atsF 1 many, _, rfl, e1.trans W e4, by rw [upd_same, rgV_ats], atsF_nodup (by decide), atsF_len, atsF_sm (by decide) (by decide) m2⟩
    · rintro u H4 ⟨a, ns, G4, rfl, E4, ga, nd, nl, sn⟩
      dsimp only [gName, List.set]
      have ha4 := E4.w.same _ _ ga
      obtain ⟨z0, t0, i0⟩ := at_int (ns := ns) (i := 0) (by decide) (by omega)
      obtain ⟨z1, t1, i1⟩ := at_int (ns := ns) (i := (many : Int).fdiv 2) (by rw [Int.fdiv_eq_ediv_of_nonneg _ (by decide)]; omega) (by rw [Int.fdiv_eq_ediv_of_nonneg _ (by decide)]; omega)
      refine ⟨_, rfl, a, _, 0, _, rfl, rfl, SqL.of ha4, t0, _, rfl, _, rfl, _, _, rfl, rfl, ⟨by decide, by decide⟩, a, _, _, _, rfl, rfl, SqL.of ha4, t1, 10, 40, rfl, rfl, ⟨by decide, by decide, by decide⟩, _, _, rfl, rfl, by show 4 ≤ sizeLine; decide, fun eL hE => ?_⟩
      dsimp only [gName, List.set]
      have big : (2000 : Nat) ≤ sizeLine := by decide
      have a5 : (upd H4 eL (.lst [.int 0, .int z0, .int z1, .int (10 ^ (40 : Int).toNat + 1)])) a = some (.lst (ns.map V.int)) := sameAdd hE _ _ ha4
      have e5 : (upd H4 eL (.lst [.int 0, .int z0, .int z1, .int (10 ^ (40 : Int).toNat + 1)])) eL = some (.lst (([0, z0, z1, 10 ^ (40 : Int).toNat + 1] : List Int).map V.int)) := upd_same
      have q5 : Same H4 (upd H4 eL (.lst [.int 0, .int z0, .int z1, .int (10 ^ (40 : Int).toNat + 1)])) := sameAdd hE
      generalize upd H4 eL (.lst [.int 0, .int z0, .int z1, .int (10 ^ (40 : Int).toNat + 1)]) = H5 at a5 e5 q5 ⊢
      obtain ⟨we, tw, iw⟩ := at_int (ns := ([0, z0, z1, 10 ^ (40 : Int).toNat + 1] : List Int)) (i := way) w0 (by show way < 4; exact w1)
      have swe : Sm we := by
        rcases List.mem_cons.mp iw with rfl | iw
        · exact sm_of (k := 8) (by decide)
        · rcases List.mem_cons.mp iw with rfl | iw
          · exact sn _ i0
          · rcases List.mem_cons.mp iw with rfl | iw
            · exact sn _ i1
            · rw [List.mem_singleton.mp iw]
              exact sm_of (k := 200) (by decide +kernel)
      refine ⟨_, rfl, _, rfl, _, rfl, 1, rfl, a, _, rfl, SqL.of a5, fun s1 hs1 => ?_⟩
      have a6 := sameAdd (o := .lst (cutV (ns.map V.int) (some 1) none)) hs1 _ _ a5
      have e6 := sameAdd (o := .lst (cutV (ns.map V.int) (some 1) none)) hs1 _ _ e5
      have q6 := q5.trans (sameAdd (o := .lst (cutV (ns.map V.int) (some 1) none)) hs1)
      have s6 : (upd H5 s1 (.lst (cutV (ns.map V.int) (some 1) none))) s1 = some (.lst (cutV (ns.map V.int) (some 1) none)) := upd_same
      generalize upd H5 s1 (.lst (cutV (ns.map V.int) (some 1) none)) = H6 at a6 e6 q6 s6 ⊢
      rw [cut1 (by rw [List.length_map]; omega), ← List.map_drop] at s6
      refine ⟨_, rfl, _, rfl, eL, _, way, _, rfl, rfl, SqL.of e6, tw, by show 1 ≤ sizeLine; decide, fun w1L hw => ?_⟩
      have q7 := q6.trans (sameAdd (o := .lst [V.int we]) hw)
      have a7 := sameAdd (o := .lst [V.int we]) hw _ _ a6
      have s7 := sameAdd (o := .lst [V.int we]) hw _ _ s6
      have w7 : (upd H6 w1L (.lst [V.int we])) w1L = some (.lst [V.int we]) := upd_same
      generalize upd H6 w1L (.lst [V.int we]) = H7 at q7 a7 s7 w7 ⊢
      refine ⟨s1, w1L, _, _, rfl, rfl, s7, w7, by rw [List.length_map, List.length_drop]; show ns.length - 1 + 1 ≤ sizeLine; omega, fun c hc => ?_⟩
      have ec : (ns.drop 1).map V.int ++ [V.int we] = (ns.drop 1 ++ [we]).map V.int := by rw [List.map_append]; rfl
      rw [ec]
      have q8 := q7.trans (sameAdd (o := .lst ((ns.drop 1 ++ [we]).map V.int)) hc)
      have a8 := sameAdd (o := .lst ((ns.drop 1 ++ [we]).map V.int)) hc _ _ a7
      have c8 : (upd H7 c (.lst ((ns.drop 1 ++ [we]).map V.int))) c = some (.lst ((ns.drop 1 ++ [we]).map V.int)) := upd_same
      generalize upd H7 c (.lst ((ns.drop 1 ++ [we]).map V.int)) = H8 at q8 a8 c8 ⊢
      have le : ns.length = (ns.drop 1 ++ [we]).length := by rw [List.length_append, List.length_drop]; show ns.length = ns.length - 1 + 1; omega
      refine ⟨a, c, ns.map V.int, (ns.drop 1 ++ [we]).map V.int, rfl, SqL.of a8, SqL.of c8, by rw [List.length_map, List.length_map]; exact le, fun H9 z ts q89 hz hts nz z9 pr => ?_⟩
      have q9 := q8.trans q89
      have a9 := q89 _ _ a8
      refine ⟨z, ts.map V.ref, rfl, SqL.of z9, ref_of_zip pr, fun ys so pm hso => ?_⟩
      have s9 := sameAdd (o := .lst ys) hso
      have q10 := q9.trans s9
      have a10 := s9 _ _ a9
      refine ⟨so, ys, rfl, SqL.of upd_same, fun h o po hh => ?_⟩
      have s10 := sameAdd (o := .frz o (.tup ys)) hh
      have q11 := q10.trans s10
      have a11 := s10 _ _ a10
      have h11 : (upd (upd H9 so (.lst ys)) h (.frz o (.tup ys))) h = some (.frz o (.tup ys)) := upd_same
      have h4h := Same.none q10 hh
      generalize upd (upd H9 so (.lst ys)) h (.frz o (.tup ys)) = H11 at q11 a11 h11 s10 ⊢
      refine ⟨by show 2 ≤ sizeLine; decide, fun q hq => ?_⟩
      have s11 := sameAdd (o := .tup [V.ref a, .ref h]) hq
      have q12 := q11.trans s11
      obtain ⟨G5, e5', g5⟩ := E4.w.grow q12
      obtain ⟨ps, hp, rfl, pr2, pm2⟩ := heap_of pr pm
      have su : ∀ u ∈ ns.drop 1 ++ [we], Sm u := fun u m => by
        rcases List.mem_append.mp m with m | m
        · exact sn u (List.mem_of_mem_drop m)
        · rw [List.mem_singleton.mp m]
          exact swe
      obtain ⟨okh, smh⟩ := heap_fine le nd (by omega) sn su pm2
      refine k q a h ns hp G5 _ (E4.trans W e5') (SqT.of upd_same) (e5'.sub _ _ ga) ⟨ps, ⟨o, po, ?_⟩, ?_⟩ okh smh nl sn
      · rw [g5 _ h4h]
        exact s11 _ _ h11
      · refine paired_mono (fun t mt kv ht => SqT.of ?_) pr2
        have mt2 : t ∈ ts := by
          obtain ⟨t2, m2, e2⟩ := List.mem_map.mp (pm.mem_iff.mp (List.mem_map_of_mem (f := V.ref) mt))
          cases e2
          exact m2
        rw [g5 _ (Same.none q8 (hts t mt2))]
        exact s11 _ _ (s10 _ _ (s9 _ _ ht))
end
end L2.Hx

/-! Rings and long lists: the law. -/
namespace L2.Hx
open PySem PySem.Spec PyProof.Rows
def nmL : List Str := ["a", "b", "x", "nil", "result"]
def wdL : List Str := ["list", "cell", "isnt"]
def stN : List Str := ["a", "b", "result", "x"]
def stR : List Str := ["b", "result", "x"]
def StGood (st : Sl) : Prop := st.map (·.1) = stN ∧ ∀ c ∈ st, Sm c.2
def IntSm (d : PyData) : Prop := ∃ n : Int, d = .int n ∧ Sm n
def ManyD (d : PyData) : Prop := ∃ n : Nat, d = .int (n : Int) ∧ 1 ≤ n ∧ n ≤ 12
def StrIn (L : List Str) (d : PyData) : Prop := ∃ z ∈ L, d = .str z
def RowOk (r : Row) : Prop := r.1 ∈ wdL ∧ r.2.1 ∈ nmL ∧ r.2.2 ∈ nmL
def RowD (d : PyData) : Prop := ∃ r : Row, d = lrowD r ∧ RowOk r
theorem words_ok : ∀ z ∈ wdL ++ nmL ++ stN, Okd 0 100 (.str z) := by
  have h : ((wdL ++ nmL ++ stN).all fun z => okB (.str z) && decide (siz (.str z) ≤ 100)) = true := by decide +kernel
  rw [List.all_eq_true] at h
  intro z m
  have q := h z m
  rw [Bool.and_eq_true] at q
  exact ⟨q.1, Nat.zero_le _, of_decide_eq_true q.2⟩
theorem row_okd {r : Row} (h : RowOk r) : Okd 1 309 (lrowD r) := by
  refine Okd.tup (k := 0) (n := 100) (m := 3) (fun z m => ?_) (Nat.le_refl 3)
  rcases List.mem_cons.mp m with rfl | m
  · exact words_ok _ (List.mem_append_left _ (List.mem_append_left _ h.1))
  · rcases List.mem_cons.mp m with rfl | m
    · exact words_ok _ (List.mem_append_left _ (List.mem_append_right _ h.2.1))
    · rw [List.mem_singleton.mp m]
      exact words_ok _ (List.mem_append_left _ (List.mem_append_right _ h.2.2))
theorem rows_okd {rs : List Row} (hl : rs.length ≤ 2) (h : ∀ r ∈ rs, RowOk r) : Okd 2 625 (.tuple (rs.map lrowD)) := by
  refine Okd.tup (k := 1) (n := 309) (m := 2) (fun z m => ?_) (by rw [List.length_map]; exact hl)
  obtain ⟨r, hr, rfl⟩ := List.mem_map.mp m
  exact row_okd (h r hr)
theorem clause_okd {lk pt : List Row} (h1 : lk.length ≤ 2) (h2 : pt.length ≤ 2) (h3 : ∀ r ∈ lk, RowOk r) (h4 : ∀ r ∈ pt, RowOk r) : Okd 4 1000000 (lclauseD lk pt) := by
  refine Okd.mono (k := 3) (n := 1000000) (Okd.tup (k := 2) (n := 625) (m := 2) (fun z m => ?_) (Nat.le_refl 2))
  rcases List.mem_cons.mp m with rfl | m
  · exact rows_okd h1 h3
  · rw [List.mem_singleton.mp m]
    exact rows_okd h2 h4
theorem store_okd {st : Sl} (hl : st.length ≤ 4) (hn : ∀ c ∈ st, c.1 ∈ stN) (hs : ∀ c ∈ st, Sm c.2) : Okd 4 1000000 (storeD st) := by
  refine Okd.mono (k := 2) (n := 1000000) (Okd.tup (k := 1) (n := 3849) (m := 4) (fun z m => ?_) (by rw [List.length_map]; exact hl))
  obtain ⟨c, hc, rfl⟩ := List.mem_map.mp m
  refine Okd.tup (k := 0) (n := 1921) (m := 2) (fun z m => ?_) (Nat.le_refl 2)
  rcases List.mem_cons.mp m with rfl | m
  · exact (words_ok _ (List.mem_append_right _ (hn c hc))).mono
  · rw [List.mem_singleton.mp m]
    exact ⟨decide_eq_true (hs c hc), Nat.zero_le _, Nat.le_refl _⟩
theorem getS_mem {k : Str} : ∀ {st : Sl}, k ∈ st.map (·.1) → ∃ n, getS st k = some n
  | [], h => absurd h List.not_mem_nil
  | c :: st, h => by
    by_cases e : c.1 = k
    · refine ⟨c.2, ?_⟩
      unfold getS
      rw [List.find?_cons, decide_eq_true e]
      rfl
    · have e2 : getS (c :: st) k = getS st k := by
        unfold getS
        rw [List.find?_cons, decide_eq_false e]
      rw [e2]
      exact getS_mem ((List.mem_cons.mp h).resolve_left fun z => e z.symm)
theorem kn_of {st : Sl} {t : Str} (h : t = "nil" ∨ t ∈ st.map (·.1)) : Kn st t := by
  unfold Kn worth
  by_cases e : t = "nil"
  · rw [if_pos e]
    exact ⟨0, rfl⟩
  · rw [if_neg e]
    exact getS_mem (h.resolve_left e)
theorem names_in : ∀ t ∈ nmL, t = "nil" ∨ t ∈ stN := by decide +kernel
theorem stN_nodup : stN.Nodup := by decide +kernel
theorem StGood.ok {st : Sl} (h : StGood st) : StOk st := by
  have l : st.length = 4 := by
    have := congrArg List.length h.1
    rw [List.length_map] at this
    exact this
  exact ⟨by rw [h.1]; exact stN_nodup, by omega⟩
theorem StGood.okd {st : Sl} (h : StGood st) : Okd 4 1000000 (storeD st) := by
  have l : st.length = 4 := by
    have := congrArg List.length h.1
    rw [List.length_map] at this
    exact this
  refine store_okd (by omega) (fun c m => ?_) h.2
  have := List.mem_map_of_mem (f := (·.1)) m
  rw [h.1] at this
  exact this
theorem StGood.kn {st : Sl} (h : StGood st) {rs : List Row} (hr : ∀ r ∈ rs, RowOk r) : KnR st rs := fun r m => ⟨kn_of (by rw [h.1]; exact names_in _ (hr r m).2.1), kn_of (by rw [h.1]; exact names_in _ (hr r m).2.2)⟩
theorem paired_snoc {α β : Type} {F : α → β → Prop} {as : List α} {bs : List β} {a : α} {b : β} (h : Paired F as bs) (h2 : F a b) : Paired F (as ++ [a]) (bs ++ [b]) := by
  induction h with
  | nil => exact .cons h2 .nil
  | cons p t ih => exact .cons p ih
def ptL : List Row := [("list", "a", "b"), ("list", "b", "nil")]
def spLaw (K : PySem.W.Frag) : Sp := fun vs H Q _ => ∃ (a : Addr) (ns : List Int), vs = [.ref a] ∧ SqL K H a (ns.map V.int) ∧ ns.length ≤ 63 ∧ ∀ H', Q (.bl true) H'
section
variable {p l : Addr} {σ : St} {G : Hp} {K : PySem.W.Frag}
theorem td_many {i : Int} (h0 : 1 ≤ i := by decide) (h1 : i ≤ 12 := by decide) : TD K p l σ G (tC (.int i)) ManyD := .flat (fun _ => .int _) ⟨i.toNat, by rw [Int.toNat_of_nonneg (by omega)], by omega, by omega⟩
theorem td_strL {z : Str} {L : List Str} (h : z ∈ L := by decide +kernel) : TD K p l σ G (tC (.str z)) (StrIn L) := .flat (fun _ => .str z) ⟨z, h, rfl⟩
theorem td_row {ta tb tc : TE} (ha : TD K p l σ G ta (StrIn wdL)) (hb : TD K p l σ G tb (StrIn nmL)) (hc : TD K p l σ G tc (StrIn nmL)) : TD K p l σ G (tTup (tCons ta (tCons tb (tCons tc tNil)))) RowD :=
  (td_tupP (Φ := fun ds => ∃ d r, ds = d :: r ∧ StrIn wdL d ∧ ∃ d2 r2, r = d2 :: r2 ∧ StrIn nmL d2 ∧ ∃ d3 r3, r2 = d3 :: r3 ∧ StrIn nmL d3 ∧ AllF (fun _ => True) 0 r3) (tds_consP ha (tds_consP hb (tds_consP hc tds_nilF))) fun ds f => by
    obtain ⟨d, r, rfl, _, d2, r2, rfl, _, d3, r3, rfl, _, z, _⟩ := f
    rw [List.length_cons, List.length_cons, List.length_cons, z]
    show 3 ≤ sizeLine
    decide).imp fun d f => by
    obtain ⟨ds, rfl, d, r, rfl, ⟨z1, h1, rfl⟩, d2, r2, rfl, ⟨z2, h2, rfl⟩, d3, r3, rfl, ⟨z3, h3, rfl⟩, z, _⟩ := f
    rw [List.length_eq_zero_iff.mp z]
    exact ⟨(z1, z2, z3), rfl, h1, h2, h3⟩
theorem TD.asgL1 {t : TE} {φ : PyData → Prop} {i : Nat} {D : Ends} {H : Hp} (h : TD K p l σ G t φ) (W : Wd p l G H) (k : ∀ v d G2 H2, Ext p l G H G2 H2 → Da K G2 v d → φ d → ∀ L, H2 L = none → D.nx (σ.set i (some (.ref L))) (upd H2 L (.lst [v]))) : tAsg (tLst (tCons t tNil)) (gName i) D σ H :=
  h G H _ W (Same.refl G) fun v d G2 H2 e da f => ⟨by show 1 ≤ sizeLine; decide, fun L hL => k v d G2 H2 e da f L hL⟩
theorem pick_two {K : PySem.W.Frag} {L : List Str} {z1 z2 : Str} {i : Nat} {H : Hp} {Q : VK} (hd : σ[i]? = some (some (.ref p))) (h1 : z1 ∈ L) (h2 : z2 ∈ L) (W : Wd p l G H) (k : ∀ z G2 H2, z ∈ L → Ext p l G H G2 H2 → Q (.str z) H2) :
    tCall spPick [] E0 (tCons (tVar i) (tCons (tLst (tCons (tC (.str z1)) (tCons (tC (.str z2)) tNil))) tNil)) σ H Q :=
  TD.run (K := K) (p := p) (l := l) (G := G) (φ := StrIn L) (td_pick (td_lstF (tds_consF (td_strL h1) (tds_consF (td_strL h2) tds_nilF))) hd) W fun v d G2 H2 e da f => by
    obtain ⟨z, m, rfl⟩ := f
    cases da
    exact k z G2 H2 m e
theorem pick_var {L : List Str} {vt : V} {dt : PyData} {i j : Nat} {H : Hp} {Q : VK} (hd : σ[i]? = some (some (.ref p))) (hj : σ[j]? = some (some vt)) (da : Da K G vt dt) (f : LsP (StrIn L) dt) (W : Wd p l G H) (k : ∀ z G2 H2, z ∈ L → Ext p l G H G2 H2 → Q (.str z) H2) :
    tCall spPick [] E0 (tCons (tVar i) (tCons (tVar j) tNil)) σ H Q :=
  TD.run (K := K) (p := p) (l := l) (G := G) (φ := StrIn L) (td_pick (td_var hj da f) hd) W fun v d G2 H2 e da f => by
    obtain ⟨z, m, rfl⟩ := f
    cases da
    exact k z G2 H2 m e
theorem td_sm {i : Int} (h : i.natAbs < 2 ^ 100 := by decide) : TD K p l σ G (tC (.int i)) IntSm := .flat (fun _ => .int _) ⟨i, rfl, sm_of h⟩
theorem pick_int {K : PySem.W.Frag} {z1 z2 z3 : Int} {i : Nat} {H : Hp} {Q : VK} (hd : σ[i]? = some (some (.ref p))) (W : Wd p l G H) (k : ∀ z G2 H2, Sm z → Ext p l G H G2 H2 → Q (.int z) H2) (h1 : z1.natAbs < 2 ^ 100 := by decide) (h2 : z2.natAbs < 2 ^ 100 := by decide) (h3 : z3.natAbs < 2 ^ 100 := by decide) :
    tCall spPick [] E0 (tCons (tVar i) (tCons (tLst (tCons (tC (.int z1)) (tCons (tC (.int z2)) (tCons (tC (.int z3)) tNil)))) tNil)) σ H Q :=
  TD.run (K := K) (p := p) (l := l) (G := G) (φ := IntSm) (td_pick (td_lstF (tds_consF (td_sm h1) (tds_consF (td_sm h2) (tds_consF (td_sm h3) tds_nilF)))) hd) W fun v d G2 H2 e da f => by
    obtain ⟨z, rfl, m⟩ := f
    cases da
    exact k z G2 H2 m e
theorem StrIn.imp {L M : List Str} {d : PyData} (h : StrIn L d) (s : ∀ z ∈ L, z ∈ M) : StrIn M d := by
  obtain ⟨z, m, e⟩ := h
  exact ⟨z, s z m, e⟩
end
section
variable {P : Program} {w : World} {K : PySem.W.Frag} {mg : Str → Option Value} {base : Heap}
theorem D_law (T : Txt K mg) : DfS P w K mg base 6 "law" s_law ["script"] (spLaw K) := by
  have D_l_is_right := D_l_is_right (P := P) (w := w) (base := base) T
  have D_l_deck := D_deck (P := P) (w := w) (base := base) T
  have D_l_draw := D_draw (P := P) (w := w) (base := base) T
  have D_l_pick := D_pick (P := P) (w := w) (base := base) T
  have D_l_chain := D_l_chain (P := P) (w := w) (base := base) T
  obtain ⟨f, fd, S⟩ := T.d_law
  refine DfS.mk' (k := 5) S sc_law (fun vs H Q E h => ?_) (fun cdv A outer s H vs Q E hgd hr h => ?_)
  · obtain ⟨a, ns, rfl, _⟩ := h
    rfl
  · obtain ⟨a, ns, rfl, hS, hz, k⟩ := h
    refine ⟨_, (pss_cons (ps_set (i := 1) sc_law.nd rfl (.inr rfl) (pe_d D_l_deck hgd hr (pa_cons (pv 0) pa_nil)))
      (pss_cons (ps_for PassesOwn.never rfl (pi_range1 rfl T.b_range (pa_cons pe_int pa_nil)) (pg_name (i := 2) sc_law.nd rfl (.inl rfl))
      (pss_cons (ps_set (i := 3) sc_law.nd rfl (.inl rfl) (pe_d D_l_pick hgd hr (pa_cons (pv 1) (pa_cons (pe_lst (pa_cons pe_int (pa_cons pe_int (pa_cons pe_int (pa_cons pe_int (pa_cons pe_int pa_nil)))))) pa_nil))))
      (pss_cons (ps_asg (pe_d D_l_chain hgd hr (pa_cons (pv 1) (pa_cons (pv 3) (pa_cons (pe_d D_l_draw hgd hr (pa_cons (pv 1) (pa_cons pe_int pa_nil))) pa_nil)))) (pg_tup rfl (pgs_cons (pg_name (i := 4) sc_law.nd rfl (.inl rfl)) (pgs_cons (pg_name (i := 5) sc_law.nd rfl (.inl rfl)) pgs_nil))))
      (pss_cons (ps_set (i := 6) sc_law.nd rfl (.inr rfl) (pe_op op_cat (pv 4) (pe_lst (pa_cons pe_int (pa_cons pe_int (pa_cons (pe_op op_add (pe_op op_pow pe_int pe_int) pe_int) (pa_cons (pe_op op_pow pe_int pe_int) pa_nil)))))))
      (pss_cons (ps_set (i := 7) sc_law.nd rfl (.inl rfl) (pe_callTy call_tuple_ofP (by rfl) T.b_tuple (by decide +kernel) (pa_cons (pe_lc (own := [("name", 8)]) (g := gName 8) (tt := tYes) rfl sc_law.nd (pi_tup (pe_tup (pa_cons pe_str (pa_cons pe_str (pa_cons pe_str (pa_cons pe_str pa_nil)))))) (blkOk_by (own := [("name", 8)]) (N := ["script", "deck", "turn", "many", "ats", "heap", "values", "store", "name", "again", "terms", "rows", "looks", "clause"]) (sc := defScope s_law) (by decide +kernel)) (fun _ _ _ _ _ => pg_name (i := 8) sc_law.nd rfl (.inl rfl)) (fun _ _ _ _ _ => pts_nil) (fun _ _ _ _ _ => (pe_tup (pa_cons (pv 8) (pa_cons (pe_d D_l_pick hgd hr (pa_cons (pv 1) (pa_cons (pv 6) pa_nil))) pa_nil))))) pa_nil)))
      (pss_cons (ps_if (pt_cmpR op_eq (pe_d D_l_draw hgd hr (pa_cons (pv 1) (pa_cons pe_int pa_nil))) pe_int (nomark _)) (pss_one (ps_set (i := 7) sc_law.nd rfl (.inl rfl) (pe_op op_catP (pe_tup (pa_cons (pe_tup (pa_cons pe_str (pa_cons (pe_ix ix_list (pv 4) pe_int (fun _ _ => rfl)) pa_nil))) pa_nil)) (pe_slice sl_tupA (pv 7) (po_some pe_int) po_none)))) pss_nil)
      (pss_one (ps_for PassesOwn.never rfl (pi_range1 rfl T.b_range (pa_cons pe_int pa_nil)) (pg_name (i := 9) sc_law.nd rfl (.inl rfl))
      (pss_cons (ps_set (i := 10) sc_law.nd rfl (.inl rfl) (pe_lst (pa_cons pe_str (pa_cons pe_str (pa_cons pe_str (pa_cons pe_str (pa_cons pe_str pa_nil)))))))
      (pss_cons (ps_set (i := 11) sc_law.nd rfl (.inl rfl) (pe_lst (pa_cons (pe_tup (pa_cons pe_str (pa_cons (pe_d D_l_pick hgd hr (pa_cons (pv 1) (pa_cons (pe_lst (pa_cons pe_str (pa_cons pe_str (pa_cons pe_str (pa_cons pe_str pa_nil))))) pa_nil))) (pa_cons (pe_d D_l_pick hgd hr (pa_cons (pv 1) (pa_cons (pv 10) pa_nil))) pa_nil)))) pa_nil)))
      (pss_cons (ps_if (pt_cmpR op_eq (pe_d D_l_draw hgd hr (pa_cons (pv 1) (pa_cons pe_int pa_nil))) pe_int (nomark _)) (pss_one (ps_expr (pe_bm PySem.F.plainAttrs_list PySem.F.slot_list_append PySem.F.type_list_append mt_append (pv 11) (pa_cons (pe_tup (pa_cons (pe_d D_l_pick hgd hr (pa_cons (pv 1) (pa_cons (pe_lst (pa_cons pe_str (pa_cons pe_str pa_nil))) pa_nil))) (pa_cons (pe_ix ix_tup (pe_ix ix_list (pv 11) pe_int (fun _ _ => rfl)) pe_int (fun _ _ => rfl)) (pa_cons (pe_d D_l_pick hgd hr (pa_cons (pv 1) (pa_cons (pv 10) pa_nil))) pa_nil)))) pa_nil)))) pss_nil)
      (pss_cons (ps_set (i := 12) sc_law.nd rfl (.inl rfl) (pe_ifExp (pt_cmpR op_gt (pe_d D_l_draw hgd hr (pa_cons (pv 1) (pa_cons pe_int pa_nil))) pe_int (nomark _)) (pe_tup pa_nil) (pe_tup (pa_cons (pe_tup (pa_cons pe_str (pa_cons pe_str (pa_cons (pe_d D_l_pick hgd hr (pa_cons (pv 1) (pa_cons (pv 10) pa_nil))) pa_nil)))) pa_nil))))
      (pss_one (ps_if (pt_not (pt_val (pe_d D_l_is_right hgd hr (pa_cons (pe_tup (pa_cons (pv 12) (pa_cons (pe_callTy call_tuple_of (by rfl) T.b_tuple (by decide +kernel) (pa_cons (pv 11) pa_nil)) pa_nil))) (pa_cons (pv 7) (pa_cons (pv 5) (pa_cons (pe_cmpR op_eq (pv 9) (pv 2) (nomark _)) pa_nil))))))) (pss_one (ps_ret pe_bl)) pss_nil))))))))))))))
      (pss_cons (ps_if (pt_cmpR op_gt (pe_d D_l_draw hgd hr (pa_cons (pv 1) (pa_cons pe_int pa_nil))) pe_int (nomark _)) (pss_one (ps_ret pe_bl)) pss_nil)
      (pss_cons (ps_asg (pe_d D_l_chain hgd hr (pa_cons (pv 1) (pa_cons pe_int (pa_cons (pe_d D_l_draw hgd hr (pa_cons (pv 1) (pa_cons pe_int pa_nil))) pa_nil)))) (pg_tup rfl (pgs_cons (pg_name (i := 4) sc_law.nd rfl (.inl rfl)) (pgs_cons (pg_name (i := 5) sc_law.nd rfl (.inl rfl)) pgs_nil))))
      (pss_cons (ps_set (i := 13) sc_law.nd rfl (.inl rfl) (pe_tup (pa_cons (pe_tup pa_nil) (pa_cons (pe_tup (pa_cons (pe_tup (pa_cons pe_str (pa_cons pe_str (pa_cons pe_str pa_nil)))) (pa_cons (pe_tup (pa_cons pe_str (pa_cons pe_str (pa_cons pe_str pa_nil)))) pa_nil))) pa_nil))))
      (pss_one (ps_ret (pe_d D_l_is_right hgd hr (pa_cons (pv 13) (pa_cons (pe_tupP (pa_cons (pe_tup (pa_cons pe_str (pa_cons (pe_d D_l_pick hgd hr (pa_cons (pv 1) (pa_cons (pe_lst (pa_cons pe_int (pa_cons pe_int (pa_cons pe_int pa_nil)))) pa_nil))) pa_nil))) (pa_cons (pe_tup (pa_cons pe_str (pa_cons pe_int pa_nil))) pa_nil))) (pa_cons (pv 5) (pa_cons pe_bl pa_nil)))))))))))), ?_⟩
    refine ⟨_, rfl, a, ns, rfl, hS, hz, fun p l H1 W1 => ?_⟩
    dsimp only [gName]
    refine ⟨7, rfl, by decide, by decide, for_range (lo := 0) (n := 7) (fun i σ H2 => ∃ o2 o3 o4 o5 o6 o7 o8 o9 o10 o11 o12 o13, σ = [some (.ref a), some (.ref p), o2, o3, o4, o5, o6, o7, o8, o9, o10, o11, o12, o13] ∧ ∃ G2, Wd p l G2 H2)
      ⟨_, _, _, _, _, _, _, _, _, _, _, _, rfl, H, W1⟩ ?_ ?_⟩
    · rintro i σ H2 hi ⟨o2, o3, o4, o5, o6, o7, o8, o9, o10, o11, o12, o13, rfl, G2, W2⟩
      dsimp only [gName, List.set]
      refine TD.asg (K := K) (p := p) (l := l) (G := G2) (φ := ManyD) (td_pick (td_lstF (tds_consF td_many (tds_consF td_many (tds_consF td_many (tds_consF td_many (tds_consF td_many tds_nilF)))))) rfl) W2 (fun v d G3 H3 e3 da3 f3 => ?_)
      obtain ⟨many, rfl, m1, m2⟩ := f3
      cases da3
      dsimp only [gName, List.set]
      refine ⟨_, rfl, _, rfl, _, rfl, p, l, G3, 4, rfl, by decide, by decide, e3.w, fun way H4 y0 y1 e4 => ⟨p, l, G3, many, way, rfl, m1, by omega, y0, y1, e4.w, fun q aL hL ns2 hp G5 H5 e5 qT ga hT okh smh nl sn => ?_⟩⟩
      refine ⟨q, _, rfl, qT, rfl, _, _, rfl, _, _, rfl, rfl, ?_⟩
      dsimp only [gName, List.set]
      have W5 := e5.w
      clear e3 e4 e5 qT W2
      -- values
      have a5 := W5.same _ _ ga
      have big : (2000 : Nat) ≤ sizeLine := by decide
      refine ⟨_, rfl, 10, 40, rfl, rfl, ⟨by decide, by decide, by decide⟩, _, _, rfl, rfl, 10, 50, rfl, rfl, ⟨by decide, by decide, by decide⟩, by show 4 ≤ sizeLine; decide, fun t ht => ?_⟩
      have e6 := W5.tmp (o := .lst (([0, 0, 10 ^ (40 : Int).toNat + 1, 10 ^ (50 : Int).toNat] : List Int).map V.int)) ht
      have a6 := sameAdd (o := .lst (([0, 0, 10 ^ (40 : Int).toNat + 1, 10 ^ (50 : Int).toNat] : List Int).map V.int)) ht _ _ a5
      have t6 : (upd H5 t (.lst (([0, 0, 10 ^ (40 : Int).toNat + 1, 10 ^ (50 : Int).toNat] : List Int).map V.int))) t = some (.lst (([0, 0, 10 ^ (40 : Int).toNat + 1, 10 ^ (50 : Int).toNat] : List Int).map V.int)) := upd_same
      have W6 := e6.w
      show rCat _ _ (upd H5 t (.lst (([0, 0, 10 ^ (40 : Int).toNat + 1, 10 ^ (50 : Int).toNat] : List Int).map V.int))) _
      generalize upd H5 t (.lst (([0, 0, 10 ^ (40 : Int).toNat + 1, 10 ^ (50 : Int).toNat] : List Int).map V.int)) = H6 at a6 t6 W6 ⊢
      refine ⟨aL, t, _, _, rfl, rfl, a6, t6, by rw [List.length_map]; show ns2.length + 4 ≤ sizeLine; omega, fun vL hv => ?_⟩
      rw [← List.map_append]
      have sv : ∀ n ∈ ns2 ++ ([0, 0, 10 ^ (40 : Int).toNat + 1, 10 ^ (50 : Int).toNat] : List Int), Sm n := fun n m => by
        rcases List.mem_append.mp m with m | m
        · exact sn n m
        · have h : ∀ n ∈ ([0, 0, 10 ^ (40 : Int).toNat + 1, 10 ^ (50 : Int).toNat] : List Int), n.natAbs < 2 ^ 200 := by decide +kernel
          exact sm_of (h n m)
      have lv : 0 < (ns2 ++ ([0, 0, 10 ^ (40 : Int).toNat + 1, 10 ^ (50 : Int).toNat] : List Int)).length := by rw [List.length_append]; show 0 < ns2.length + 4; omega
      have lv2 : (ns2 ++ ([0, 0, 10 ^ (40 : Int).toNat + 1, 10 ^ (50 : Int).toNat] : List Int)).length < 1000000 := by rw [List.length_append]; show ns2.length + 4 < 1000000; omega
      generalize ns2 ++ ([0, 0, 10 ^ (40 : Int).toNat + 1, 10 ^ (50 : Int).toNat] : List Int) = vs2 at sv lv lv2 ⊢
      have e7 := W6.put (o := .lst (vs2.map V.int)) hv
      have gv : (upd G5 vL (.lst (vs2.map V.int))) vL = some (.lst (vs2.map V.int)) := upd_same
      have W7 := e7.w
      have ga7 := e7.sub _ _ ga
      have hT7 := hT.same e7.sub
      clear e7 e6 W6 t6 a6 a5 W5 hT ga
      generalize upd G5 vL (.lst (vs2.map V.int)) = G7 at gv W7 ga7 hT7
      generalize upd H6 vL (.lst (vs2.map V.int)) = H7 at W7 ⊢
      dsimp only [gName, List.set]
      -- the store
      refine ⟨by show 4 ≤ sizeLine; decide, fun t2 ht2 => ?_⟩
      have e8 := W7.put (o := .tup (stN.map V.str)) ht2
      have g8 : (upd G7 t2 (.tup (stN.map V.str))) t2 = some (.tup (stN.map V.str)) := upd_same
      have W8 := e8.w
      have ga8 := e8.sub _ _ ga7
      have hT8 := hT7.same e8.sub
      have gv8 := e8.sub _ _ gv
      clear e8 W7 ga7 hT7 gv
      generalize upd G7 t2 (.tup (stN.map V.str)) = G8 at g8 W8 ga8 hT8 gv8
      show ∃ b : Addr, V.ref t2 = .ref b ∧ _
      refine ⟨t2, rfl, ⟨_, sameT W8.same (SqT.of g8)⟩, fun D hD => lc_tup (K := K) (a := t2) (xs := stN.map V.str) (fun i H3 => ∃ (G3 : Hp) (ts : List Addr) (cs : Sl), Wd p l G3 H3 ∧ Same G8 G3 ∧ G3 D = none ∧ H3 D = some (.lst (ts.map V.ref)) ∧
        Paired (fun t kv => SqT K G3 t [kV kv.1, kv.2]) ts (stK cs) ∧ cs.map (·.1) = stN.take i ∧ ∀ c ∈ cs, Sm c.2)
        ⟨G8, [], [], (W8.tmp hD).w, Same.refl _, W8.same.free hD, upd_same, .nil, rfl, fun c m => absurd m List.not_mem_nil⟩ (fun i H3 _ ⟨G3, _, _, w3, s3, _⟩ => sameT (s3.trans w3.same) (SqT.of g8)) ?_ ?_⟩
      · rintro n x H3 hx ⟨G3, ts, cs, w3, s3, gD, hD3, pr3, nm3, sm3⟩
        rw [List.getElem?_map] at hx
        obtain ⟨z, hzn, rfl⟩ := Option.map_eq_some_iff.mp hx
        have gv3 := s3 _ _ gv8
        have lts : ts.length ≤ 4 := by
          have h1 := paired_len pr3
          have h2 := congrArg List.length nm3
          rw [List.length_map, List.length_take] at h2
          have h3 : stN.length = 4 := rfl
          unfold stK at h1
          rw [List.length_map] at h1
          omega
        have nDp : D ≠ p := W8.np hD
        have nDl : D ≠ l := W8.nl hD
        have nvp : vL ≠ p := fun e => by
          rw [e, w3.gp] at gv3
          cases gv3
        have nvl : vL ≠ l := fun e => by
          rw [e, w3.gl] at gv3
          cases gv3
        refine ⟨rfl, _, rfl, _, rfl, _, rfl, p, l, G3, vL, vs2.map V.int, rfl, w3, w3.same _ _ gv3, nvp, nvl, by rw [List.length_map]; exact lv, by rw [List.length_map]; exact lv2, fun y H4 my e4 => ⟨by show 2 ≤ sizeLine; decide, fun t ht => ?_⟩⟩
        obtain ⟨nv, mv, rfl⟩ := List.mem_map.mp my
        have hD4 := e4.keep _ _ nDp nDl hD3
        have nDt : D ≠ t := ne_of_none hD4 ht
        have e5 := e4.w.put (o := .tup [V.str z, .int nv]) ht
        have gt5 : (upd G3 t (.tup [V.str z, .int nv])) t = some (.tup [V.str z, .int nv]) := upd_same
        refine ⟨ts.map V.ref, by rw [upd_ne nDt]; exact hD4, by rw [List.length_map]; omega, _, ts ++ [t], cs ++ [(z, nv)], e5.w.own nDp nDl (by rw [upd_ne nDt]; exact gD), s3.trans e5.sub, by rw [upd_ne nDt]; exact gD, by rw [upd_same, List.map_append]; rfl, ?_, ?_, fun c m => ?_⟩
        · unfold stK
          rw [List.map_append]
          exact paired_snoc (paired_mono (fun _ _ _ q => sameT e5.sub q) pr3) (SqT.of gt5)
        · rw [List.map_append, nm3, List.take_add_one, hzn]
          rfl
        · rcases List.mem_append.mp m with m | m
          · exact sm3 c m
          · rw [List.mem_singleton.mp m]
            exact sv nv mv
      · rintro H3 ⟨G3, ts, cs, w3, s3, gD, hD3, pr3, nm3, sm3⟩
        refine ⟨D, _, rfl, SqL.of hD3, fun h2 o po hh => ?_⟩
        have e9 := w3.put (o := .frz o (.tup (ts.map V.ref))) hh
        have pS : PrT K (upd G3 h2 (.frz o (.tup (ts.map V.ref)))) h2 (stK cs) := ⟨ts, ⟨o, po, upd_same⟩, paired_mono (fun _ _ _ q => sameT e9.sub q) pr3⟩
        have good : StGood cs := ⟨nm3, sm3⟩
        have W9 := e9.w
        have ga9 := e9.sub _ _ (s3 _ _ ga8)
        have hT9 := (hT8.same s3).same e9.sub
        clear W8 ga8 hT8 gv8 g8 e9 w3 s3 gD hD3 pr3 nm3 sm3 hD
        generalize upd G3 h2 (.frz o (.tup (ts.map V.ref))) = G9 at pS W9 ga9 hT9
        generalize upd H3 h2 (.frz o (.tup (ts.map V.ref))) = H9 at W9 ⊢
        dsimp only [gName, List.set]
        refine' behindS (I := fun σ H' => ∃ (G' : Hp) (sa : Addr) (st : Sl), σ = [some (.ref a), some (.ref p), some (.int (0 + (i : Int))), some (.int (many : Int)), some (.ref aL), some (.ref hL), some (.ref vL), some (.ref sa), o8, o9, o10, o11, o12, o13] ∧ Wd p l G' H' ∧ Same G9 G' ∧ PrT K G' sa (stK st) ∧ StGood st) (fun fin => ?_) ?_
        rotate_left 1
        · refine ⟨_, rfl, p, l, G9, 2, rfl, by decide, by decide, W9, fun d H10 d0 d1 e10 => ⟨rfl, _, rfl, iteB (fun _ => ?_) (fun _ => ?_)⟩⟩
          · have W10 := e10.w
            obtain ⟨n0, t0, i0⟩ := at_int (ns := ns2) (i := 0) (by decide) (by omega)
            obtain ⟨c0, cs2, rfl⟩ : ∃ c0 cs2, cs = c0 :: cs2 := by
              cases cs with
              | nil => exact nomatch good.1
              | cons c r => exact ⟨c, r, rfl⟩
            obtain ⟨ts2, plS, prS⟩ := pS
            have prS : Paired (fun t kv => SqT K G9 t [kV kv.1, kv.2]) ts2 (((.inr c0.1, .int c0.2) : Key × V) :: stK cs2) := prS
            cases prS with
            | @cons tt0 _ ts3 _ hd tl =>
              have hn : c0.1 :: cs2.map (·.1) = ("a" : Str) :: stR := good.1
              injection hn with hn1 hn2
              have l3 : ts3.length = 3 := by
                have h1 := paired_len tl
                have h2 := congrArg List.length hn2
                rw [List.length_map] at h2
                unfold stK at h1
                rw [List.length_map] at h1
                rw [h1, h2]
                rfl
              have pl10 := (plS.same W10.same)
              refine ⟨_, rfl, aL, _, 0, _, rfl, rfl, SqL.of (W10.same _ _ ga9), t0, by show 2 ≤ sizeLine; decide, fun t ht => ?_⟩
              have q11 := sameAdd (o := .tup [V.str "a", .int n0]) ht
              have t11 : (upd H10 t (.tup [V.str "a", .int n0])) t = some (.tup [V.str "a", .int n0]) := upd_same
              refine ⟨by show 1 ≤ sizeLine; decide, fun t2 ht2 => ?_⟩
              have q12 := sameAdd (o := .tup [V.ref t]) ht2
              have t12 := q12 _ _ t11
              have u12 : (upd (upd H10 t (.tup [V.str "a", .int n0])) t2 (.tup [V.ref t])) t2 = some (.tup [V.ref t]) := upd_same
              have q12 := q11.trans q12
              generalize upd (upd H10 t (.tup [V.str "a", .int n0])) t2 (.tup [V.ref t]) = H12 at t12 u12 q12 ⊢
              refine ⟨_, rfl, 1, rfl, h2, _, rfl, (pl10.same q12).sqT, fun hw => ?_, fun hw s hs => ?_⟩
              · have e : HT.sIx ((tt0 :: ts3).map V.ref).length 0 (some 1) = min 1 ((tt0 :: ts3).map V.ref).length := HT.sIx_nat _ 0 1
                rw [hw.1, List.length_map, List.length_cons] at e
                omega
              have q13 := sameAdd (o := .tup (cutV ((tt0 :: ts3).map V.ref) (some 1) none)) hs
              have t13 := q13 _ _ t12
              have u13 := q13 _ _ u12
              have s13 : (upd H12 s (.tup (cutV ((tt0 :: ts3).map V.ref) (some 1) none))) s = some (.tup (cutV ((tt0 :: ts3).map V.ref) (some 1) none)) := upd_same
              have q13 := q12.trans q13
              have e13 : cutV ((tt0 :: ts3).map V.ref) (some 1) none = ts3.map V.ref := cut1 (by rw [List.length_map, List.length_cons]; omega)
              generalize upd H12 s (.tup (cutV ((tt0 :: ts3).map V.ref) (some 1) none)) = H13 at t13 u13 s13 q13 ⊢
              rw [e13] at s13
              refine ⟨t2, s, [V.ref t], ts3.map V.ref, rfl, rfl, SqT.of u13, SqT.of s13, List.cons_ne_nil _ _, fun e => ?_, by rw [List.length_map, l3]; show 4 ≤ sizeLine; decide, fun q o po hq => ?_⟩
              · have := congrArg List.length e
                rw [List.length_map, l3] at this
                cases this
              have s14 := sameAdd (o := .frz o (.tup ([V.ref t] ++ ts3.map V.ref))) hq
              obtain ⟨G14, e14, g14⟩ := W10.grow (q13.trans s14)
              dsimp only [gName, List.set]
              refine fin _ _ ⟨G14, q, ("a", n0) :: cs2, rfl, e14.w, e14.sub, ⟨t :: ts3, ⟨o, po, ?_⟩, .cons ?_ ?_⟩, ?_, fun c m => ?_⟩
              · rw [g14 _ (Same.none q13 hq)]
                exact upd_same
              · refine SqT.of ?_
                rw [g14 _ ht]
                exact s14 _ _ t13
              · exact paired_mono (fun _ _ _ q => sameT e14.sub q) tl
              · show ("a" : Str) :: cs2.map (·.1) = stN
                rw [hn2]
                rfl
              · rcases List.mem_cons.mp m with rfl | m
                · exact sn n0 i0
                · exact good.2 c (List.mem_cons_of_mem _ m)
          · exact fin _ _ ⟨G9, h2, cs, rfl, e10.w, Same.refl _, pS, good⟩
        · rintro σ H10 ⟨G10, sa, st, rfl, W10, s10, pS10, gd10⟩
          have ga10 := s10 _ _ ga9
          have hT10 := hT9.same s10
          refine ⟨6, rfl, by decide, by decide, for_range (lo := 0) (n := 6) (fun j σ H11 => ∃ o9 o10 o11 o12, σ = [some (.ref a), some (.ref p), some (.int (0 + (i : Int))), some (.int (many : Int)), some (.ref aL), some (.ref hL), some (.ref vL), some (.ref sa), o8, o9, o10, o11, o12, o13] ∧ ∃ G11, Wd p l G11 H11 ∧ Same G10 G11)
            ⟨_, _, _, _, rfl, G10, W10, Same.refl _⟩ ?_ ?_⟩
          · rintro j σ H11 hj ⟨o9, o10, o11, o12, rfl, G11, W11, s11⟩
            dsimp only [gName, List.set]
            -- terms
            refine TD.asg (K := K) (p := p) (l := l) (G := G11) (φ := LsP (StrIn nmL)) (td_lstF (tds_consF td_strL (tds_consF td_strL (tds_consF td_strL (tds_consF td_strL (tds_consF td_strL tds_nilF)))))) W11 (fun vt dt G12 H12 e12 da12 f12 => ?_)
            dsimp only [gName, List.set]
            -- rows
            refine TD.asgL1 (K := K) (p := p) (l := l) (G := G12) (φ := RowD) (td_row td_strL (td_pick (td_lstF (tds_consF td_strL (tds_consF td_strL (tds_consF td_strL (tds_consF td_strL tds_nilF))))) rfl) (td_pick (td_var rfl da12 f12) rfl)) e12.w (fun x1 d1 G13 H13 e13 da13 f13 L fL => ?_)
            obtain ⟨r1, rfl, ok1⟩ := f13
            obtain ⟨t1, rfl, tT1⟩ := row_at da13
            have e14 := e13.w.tmp (o := .lst [V.ref t1]) fL
            have L14 : (upd H13 L (.lst [V.ref t1])) L = some (.lst [V.ref t1]) := upd_same
            have nLp := e13.w.np fL
            have nLl := e13.w.nl fL
            have gL13 : G13 L = none := e13.w.same.free fL
            have W14 := e14.w
            have s13 : Same G10 G13 := (s11.trans e12.sub).trans e13.sub
            have da12 := da12.mono e13.sub
            clear e14 e12 W11 s11
            generalize upd H13 L (.lst [V.ref t1]) = H14 at L14 W14 ⊢
            dsimp only [gName, List.set]
            refine' behindS (I := fun σ H' => ∃ (G' : Hp) (xs : List V) (pt : List Row), σ = [some (.ref a), some (.ref p), some (.int (0 + (i : Int))), some (.int (many : Int)), some (.ref aL), some (.ref hL), some (.ref vL), some (.ref sa), o8, some (.int (0 + (j : Int))), some vt, some (.ref L), o12, o13] ∧ Wd p l G' H' ∧ Same G13 G' ∧ G' L = none ∧ H' L = some (.lst xs) ∧ DaAll K G' xs (pt.map lrowD) ∧ pt.length ≤ 2 ∧ ∀ r ∈ pt, RowOk r) (fun fin => ?_) ?_
            rotate_left 1
            · refine ⟨_, rfl, p, l, G13, 2, rfl, by decide, by decide, W14, fun d H15 d0 d1 e15 => ⟨rfl, _, rfl, iteB (fun _ => ?_) (fun _ => ?_)⟩⟩
              · have L15 := e15.keep _ _ nLp nLl L14
                refine ⟨_, rfl, .inl ⟨rfl, _, SqL.of L15⟩, ?_⟩
                refine pick_two (K := K) (L := wdL) rfl (by decide +kernel) (by decide +kernel) e15.w (fun z1 G16 H16 mz1 e16 => ?_)
                have L16 := e16.keep _ _ nLp nLl L15
                have gL16 := e16.new _ _ L15 gL13
                refine ⟨_, rfl, L, _, 0, V.ref t1, rfl, rfl, SqL.of L16, rfl, t1, _, 2, .str r1.2.2, rfl, rfl, sameT (e16.sub.trans e16.w.same) tT1, rfl, ?_⟩
                refine pick_var rfl rfl (da12.mono e16.sub) f12 e16.w (fun z3 G17 H17 mz3 e17 => ?_)
                have L17 := e17.keep _ _ nLp nLl L16
                have gL17 := e17.new _ _ L16 gL16
                refine ⟨by show 3 ≤ sizeLine; decide, fun t ht => ?_⟩
                have e18 := e17.w.put (o := .tup [V.str z1, .str r1.2.2, .str z3]) ht
                have L18 := e18.keep _ _ nLp nLl L17
                have gL18 := e18.new _ _ L17 gL17
                refine ⟨L, _, _, rfl, rfl, L18, by show 1 < sizeLine; decide, ?_⟩
                have s18 := (e16.sub.trans e17.sub).trans e18.sub
                dsimp only [gName, List.set]
                refine fin _ _ ⟨_, [V.ref t1, .ref t], [r1, (z1, r1.2.2, z3)], rfl, e18.w.own nLp nLl gL18, s18, gL18, upd_same, .cons (da13.mono s18) (.cons (.tup (SqT.of upd_same) (.cons (.str _) (.cons (.str _) (.cons (.str _) .nil)))) .nil), Nat.le_refl 2, fun r m => ?_⟩
                rcases List.mem_cons.mp m with rfl | m
                · exact ok1
                · rw [List.mem_singleton.mp m]
                  exact ⟨mz1, ok1.2.2, mz3⟩
              · refine fin _ _ ⟨G13, [V.ref t1], [r1], rfl, e15.w, Same.refl _, gL13, e15.keep _ _ nLp nLl L14, .cons da13 .nil, by show 1 ≤ 2; decide, fun r m => ?_⟩
                rw [List.mem_singleton.mp m]
                exact ok1
            · rintro σ H15 ⟨G15, xs, pt, rfl, W15, s15, gL15, L15, aA15, lp15, ok15⟩
              have da15 := da12.mono s15
              refine asg_by (I := fun u H' => ∃ (G' : Hp) (lk : List Row), Ext p l G15 H15 G' H' ∧ Da K G' u (.tuple (lk.map lrowD)) ∧ lk.length ≤ 2 ∧ ∀ r ∈ lk, RowOk r) (fun Qn fin => ?_) ?_
              · refine ⟨_, rfl, p, l, G15, 3, rfl, by decide, by decide, W15, fun d H16 d0 d1 e16 => ⟨_, _, rfl, rfl, _, rfl, iteB (fun _ => ?_) (fun _ => ?_)⟩⟩
                · refine ⟨Nat.zero_le _, fun t ht => fin _ _ ⟨_, [], e16.trans W15 (e16.w.put ht), .tup (SqT.of upd_same) .nil, by decide, fun r m => absurd m List.not_mem_nil⟩⟩
                · refine pick_var rfl rfl da15 f12 e16.w (fun z3 G17 H17 mz3 e17 => ?_)
                  refine ⟨by show 3 ≤ sizeLine; decide, fun t ht => ?_⟩
                  have e18 := e17.w.put (o := .tup [V.str "isnt", .str "a", .str z3]) ht
                  refine ⟨by show 1 ≤ sizeLine; decide, fun t2 ht2 => ?_⟩
                  have e19 := e18.w.put (o := .tup [V.ref t]) ht2
                  refine fin _ _ ⟨_, [("isnt", "a", z3)], ((e16.trans W15 e17).trans W15 e18).trans W15 e19, .tup (SqT.of upd_same) (.cons ?_ .nil), by show 1 ≤ 2; decide, fun r m => ?_⟩
                  · exact Da.mono e19.sub (.tup (SqT.of upd_same) (.cons (.str _) (.cons (.str _) (.cons (.str _) .nil))))
                  · rw [List.mem_singleton.mp m]
                    exact ⟨by show ("isnt" : Str) ∈ wdL; decide +kernel, by show ("a" : Str) ∈ nmL; decide +kernel, mz3⟩
              · rintro u H16 ⟨G16, lk, e16, da16, llk, oklk⟩
                dsimp only [gName, List.set]
                have L16 := e16.keep _ _ nLp nLl L15
                refine ⟨_, rfl, _, rfl, L, xs, rfl, .inl ⟨SqL.of L16, fun q hq => ?_⟩⟩
                have e17 := e16.w.put (o := .tup xs) hq
                refine ⟨by show 2 ≤ sizeLine; decide, fun c hc => ?_⟩
                have e18 := e17.w.put (o := .tup [u, .ref q]) hc
                have s18 := ((((s13.trans s15).trans e16.sub).trans e17.sub).trans e18.sub)
                refine ⟨_, rfl, _, rfl, _, rfl, _, rfl, rfl, ?_⟩
                refine ⟨.ref c, sa, hL, lk, pt, st, hp, _, rfl, ?_, (pS10.same s18).same e18.w.same, (hT10.same s18).same e18.w.same, gd10.ok, okh, gd10.kn oklk, gd10.kn ok15, by omega, clause_okd llk lp15 oklk ok15, gd10.okd, smh, fun H19 s19 => ?_⟩
                · exact Da.mono e18.w.same (.tup (SqT.of upd_same) (.cons (da16.mono (e17.sub.trans e18.sub)) (.cons (.tup (sameT e18.sub (SqT.of upd_same)) (aA15.mono ((e16.sub.trans e17.sub).trans e18.sub))) .nil)))
                · refine ⟨true, rfl, if_no rfl ?_⟩
                  exact ⟨_, _, _, _, rfl, _, (e18.w.still s19).w, (((s13.trans s15).trans e16.sub).trans e17.sub).trans e18.sub⟩
          · rintro σ H11 ⟨o9, o10, o11, o12, rfl, G11, W11, s11⟩
            exact ⟨_, _, _, _, _, _, _, _, _, _, _, _, rfl, G11, W11⟩
    · rintro σ H2 ⟨o2, o3, o4, o5, o6, o7, o8, o9, o10, o11, o12, o13, rfl, G2, W2⟩
      dsimp only [gName, List.set]
      refine ⟨_, rfl, p, l, G2, 12, rfl, by decide, by decide, W2, fun d H3 d0 d1 e3 => ⟨_, _, rfl, rfl, _, rfl, iteB (fun _ => k _) (fun _ => ?_)⟩⟩
      refine ⟨_, rfl, _, rfl, p, l, G2, 4, rfl, by decide, by decide, e3.w, fun way H4 y0 y1 e4 => ⟨p, l, G2, 1300, way, rfl, by decide, by decide, y0, y1, e4.w, fun q aL hL ns2 hp G5 H5 e5 qT ga hT okh smh nl sn => ?_⟩⟩
      refine ⟨q, _, rfl, qT, rfl, _, _, rfl, _, _, rfl, rfl, ?_⟩
      dsimp only [gName, List.set]
      have W5 := e5.w
      clear e3 e4 e5 qT W2
      refine ⟨Nat.zero_le _, fun t0 h0 => ?_⟩
      have f0 := W5.put (o := .tup []) h0
      refine ⟨by show 3 ≤ sizeLine; decide, fun t1 h1 => ?_⟩
      have f1 := f0.w.put (o := .tup [V.str "list", .str "a", .str "b"]) h1
      refine ⟨by show 3 ≤ sizeLine; decide, fun t2 h2 => ?_⟩
      have f2 := f1.w.put (o := .tup [V.str "list", .str "b", .str "nil"]) h2
      refine ⟨by show 2 ≤ sizeLine; decide, fun t3 h3 => ?_⟩
      have f3 := f2.w.put (o := .tup [V.ref t1, .ref t2]) h3
      refine ⟨by show 2 ≤ sizeLine; decide, fun t4 h4 => ?_⟩
      have f4 := f3.w.put (o := .tup [V.ref t0, .ref t3]) h4
      dsimp only [gName, List.set]
      have dc : Da K _ (.ref t4) (lclauseD [] ptL) := .tup (SqT.of upd_same) (.cons (Da.mono f4.sub (Da.mono f3.sub (Da.mono f2.sub (Da.mono f1.sub (.tup (SqT.of upd_same) .nil))))) (.cons (Da.mono f4.sub (.tup (SqT.of upd_same) (.cons (Da.mono f3.sub (Da.mono f2.sub (.tup (SqT.of upd_same) (.cons (.str _) (.cons (.str _) (.cons (.str _) .nil)))))) (.cons (Da.mono f3.sub (.tup (SqT.of upd_same) (.cons (.str _) (.cons (.str _) (.cons (.str _) .nil))))) .nil)))) .nil))
      have hT5 := ((((hT.same f0.sub).same f1.sub).same f2.sub).same f3.sub).same f4.sub
      have W6 := f4.w
      have knl : ∀ (n : Int) (rs : List Row), rs = [] ∨ rs = ptL → KnR [("a", n), ("b", 650)] rs := fun n rs h r m => by
        have ma : ("a" : Str) ∈ ([("a", n), ("b", 650)] : Sl).map (·.1) := List.mem_cons_self
        have mb : ("b" : Str) ∈ ([("a", n), ("b", 650)] : Sl).map (·.1) := List.mem_cons_of_mem _ List.mem_cons_self
        rcases h with rfl | rfl
        · exact absurd m List.not_mem_nil
        · rcases List.mem_cons.mp m with rfl | m
          · exact ⟨kn_of (.inr ma), kn_of (.inr mb)⟩
          · rw [List.mem_singleton.mp m]
            exact ⟨kn_of (.inr mb), kn_of (.inl rfl)⟩
      have okp : ∀ r ∈ ptL, RowOk r := fun r m => by
        rcases List.mem_cons.mp m with rfl | m
        · exact ⟨by decide +kernel, by decide +kernel, by decide +kernel⟩
        · rw [List.mem_singleton.mp m]
          exact ⟨by decide +kernel, by decide +kernel, by decide +kernel⟩
      clear f0 f1 f2 f3 f4 h0 h1 h2 h3 h4 hT W5
      generalize upd (upd (upd (upd (upd G5 t0 (.tup [])) t1 (.tup [V.str "list", .str "a", .str "b"])) t2 (.tup [V.str "list", .str "b", .str "nil"])) t3 (.tup [V.ref t1, V.ref t2])) t4 (.tup [V.ref t0, V.ref t3]) = G6 at W6 dc hT5
      generalize upd (upd (upd (upd (upd H5 t0 (.tup [])) t1 (.tup [V.str "list", .str "a", .str "b"])) t2 (.tup [V.str "list", .str "b", .str "nil"])) t3 (.tup [V.ref t1, V.ref t2])) t4 (.tup [V.ref t0, V.ref t3]) = H6 at W6 ⊢
      refine ⟨_, rfl, ?_⟩
      refine pick_int (K := K) (z1 := 1) (z2 := 1) (z3 := 651) rfl W6 (fun n G7 H7 sn7 e7 => ?_)
      refine ⟨by show 2 ≤ sizeLine; decide, fun ta hta => ?_⟩
      have f0 := e7.w.put (o := .tup [V.str "a", .int n]) hta
      refine ⟨by show 2 ≤ sizeLine; decide, fun tb htb => ?_⟩
      have f1 := f0.w.put (o := .tup [V.str "b", .int 650]) htb
      refine ⟨by show 2 ≤ sizeLine; decide, fun tc o po htc => ?_⟩
      have f2 := f1.w.put (o := .frz o (.tup [V.ref ta, V.ref tb])) htc
      have s7 := ((e7.sub.trans f0.sub).trans f1.sub).trans f2.sub
      refine ⟨_, rfl, .ref t4, tc, hL, [], ptL, [("a", n), ("b", 650)], hp, false, rfl, Da.mono (s7.trans f2.w.same) dc, PrT.same f2.w.same ⟨[ta, tb], ⟨o, po, upd_same⟩, .cons (sameT f2.sub (sameT f1.sub (SqT.of upd_same))) (.cons (sameT f2.sub (SqT.of upd_same)) .nil)⟩, (hT5.same s7).same f2.w.same, ?_, okh, knl n _ (.inl rfl), knl n _ (.inr rfl), by show 2 ≤ 1000; decide,
        clause_okd (by decide) (by decide) (fun r m => absurd m List.not_mem_nil) okp, ?_, smh, fun H' _ => k H'⟩
      · exact ⟨by show (["a", "b"] : List Str).Nodup; decide +kernel, by show 2 ≤ 1000; decide⟩
      · refine store_okd (by show 2 ≤ 4; decide) (fun c m => ?_) (fun c m => ?_)
        · rcases List.mem_cons.mp m with rfl | m
          · show ("a" : Str) ∈ stN
            decide +kernel
          · rw [List.mem_singleton.mp m]
            decide +kernel
        · rcases List.mem_cons.mp m with rfl | m
          · exact sn7
          · rw [List.mem_singleton.mp m]
            exact sm_of (k := 20) (by decide)
end
end L2.Hx

/-! The end: the row from the promise of its def. -/
namespace L2.Hx
open PySem PySem.Spec PyProof.Rows
section
variable {P : Program} {w : World} {K : PySem.W.Frag} {mg mb : Str → Option Value} {k : Nat} {f a : Addr} {fd : FuncData} {x : Str} {sp : Sp} {t0 : Shared} {us0 : List Value} {ns : List Int}
/-- what stands ahead of the call of the def -/
structure Ahead (K : PySem.W.Frag) (mg mb : Str → Option Value) (t0 : Shared) (a : Addr) (us0 : List Value) (ns : List Int) : Prop where
  kin : K.In t0.heap
  nsG : t0.heap.Ns mainGlobals mg
  nsB : t0.heap.Ns builtinsNs mb
  bb : ∀ y : Str, y ≠ "__name__" → mb y = bootBuiltins y
  lim : t0.heap.NoLimit
  gens : t0.gens = #[]
  obj : t0.heap.get? a = some { cls := .type "list", data := .seq us0.toArray }
  are : IntsAre us0 ns
  len : ns.length ≤ sizeLine
/-- what stands behind it -/
abbrev Done (t0 : Shared) : Result → Shared → Prop := fun r z => r = .ok (.ret (.bool true)) ∧ OldK t0.heap z.heap ∧ z.os = t0.os ∧ AllBare z.gens
/-- from a heap in which nothing but the script may be tracked -/
theorem Ahead.from_ {H : Hp} (Z : Ahead K mg mb t0 a us0 ns) (room : Room k callerA) (F : ∀ base : Heap, K.In base → base.Ns mainGlobals mg → FnG P w K mg base CX0 k f fd [x] sp) (bind : ∀ (s : Shared) (u : Value), BindsTo s fd ⟨[u], []⟩ [(x, u)])
    (hO : Only H) (prom : sp [.ref a] H (fun v _ => v = .bl true) fun _ _ _ => False) (ok0 : HOk P w H t0.heap) (alone : ∀ b, H b ≠ none → b = a) (notK : H a ≠ none → K.lookup a = none) :
    codeAny (model P w) callerA (.call (.ref f) ⟨[.ref a], []⟩) (Done t0) t0 := by
  have free : ∀ {b : Addr} {o : Obj} {es : Array DictEntry} {n : Nat}, t0.heap.get? b = some o → o.data = .dict es n → H b = none := fun {b o es n} e d => by
    rcases hO b with q | ⟨o2, xs, q⟩
    · exact q
    · have ea := alone b (by rw [q]; exact Option.some_ne_none _)
      rw [ea, Z.obj] at e
      cases e
      cases d
  have ns1 : ∀ {b : Addr} {m : Str → Option Value}, t0.heap.Ns b m → (hidT t0.heap H).Ns b m := fun {b m} z => by
    obtain ⟨o, es, n, e, d, r⟩ := z
    exact ⟨o, es, n, hidT_get e (free e d), d, r⟩
  have kin1 : K.In (hidT t0.heap H) := fun b o e => by
    refine hidT_get (Z.kin b o e) ?_
    rcases hO b with q | ⟨o2, xs, q⟩
    · exact q
    · have nn : H b ≠ none := by
        rw [q]
        exact Option.some_ne_none _
      have ea := alone b nn
      rw [ea] at nn e
      rw [notK nn] at e
      cases e
  have lim1 : (hidT t0.heap H).NoLimit := by
    obtain ⟨m, z1, z2⟩ := Z.lim
    exact ⟨m, ns1 z1, z2⟩
  have env : Env0 P w K mg (hidT t0.heap H) callerA [] t0 H :=
    ⟨rfl, ⟨kin1, ns1 Z.nsG, ⟨mb, ns1 Z.nsB, Z.bb⟩, lim1⟩, fun b o e => of_hidT e, Nat.le_of_eq (hidT_size _ _), trivial, fun b z => absurd (show b ∈ ([] : List Addr) from z) List.not_mem_nil, ok0, .of_eq Z.gens⟩
  refine codeAny_mono ((F _ kin1 (ns1 Z.nsG)).go callerA [] t0 H ⟨[.ref a], []⟩ [.ref a] [.ref a] _ _ rfl room env (bind t0 (.ref a)) (.cons rfl .nil) prom) fun r z h => ?_
  match r, h with
  | .ok (.ret u), h =>
    obtain ⟨v, H1, e1, e2, e3, e4, e5, e6⟩ := h
    have ev : v = .bl true := e6
    rw [ev] at e5
    have eu : u = Value.bool true := e5
    rw [eu]
    refine ⟨rfl, OldK.of_keep fun b o e => ?_, e1, e2⟩
    rcases hO b with q | ⟨o2, xs, q⟩
    · exact e3.keep b o e q (fun m => absurd (show b ∈ ([] : List Addr) from m) List.not_mem_nil) (by simp)
    · have q1 := e3.frzs b o2 _ q
      have g0 := (ok0 b _ q).1
      have g1 := (e4 b _ q1).1
      rw [e] at g0
      cases g0
      exact g1
theorem Ahead.call (Z : Ahead K mg mb t0 a us0 ns) (room : Room k callerA) (F : ∀ base : Heap, K.In base → base.Ns mainGlobals mg → FnG P w K mg base CX0 k f fd [x] sp) (bind : ∀ (s : Shared) (u : Value), BindsTo s fd ⟨[u], []⟩ [(x, u)])
    (prom : ∀ H : Hp, SqL K H a (ns.map V.int) → sp [.ref a] H (fun v _ => v = .bl true) fun _ _ _ => False) : codeAny (model P w) callerA (.call (.ref f) ⟨[.ref a], []⟩) (Done t0) t0 := by
  have vals := vals_ints Z.are
  have lens := Z.are.length
  cases own : K.lookup a with
  | some o =>
    have eo := Z.kin a o own
    rw [Z.obj] at eo
    cases eo
    refine Z.from_ (H := fun _ => none) room F bind (fun _ => .inl rfl) (prom _ (.inr ⟨_, us0.toArray, _, own, rfl, rfl, rfl, ?_, vals⟩)) (fun b u q => nomatch q) (fun b q => absurd rfl q) (fun q => absurd rfl q)
    rw [List.size_toArray, lens]
    exact Z.len
  | none =>
    refine Z.from_ (H := fun b => if b = a then some (.frz { cls := .type "list", data := .seq us0.toArray } (.lst (ns.map V.int))) else none) room F bind (fun b => ?_) (prom _ (.inl (.inr ⟨_, if_pos rfl⟩))) (fun b u q => ?_) (fun b q => ?_) (fun _ => own)
    · by_cases e : b = a
      · exact .inr ⟨_, _, if_pos e⟩
      · exact .inl (if_neg e)
    · by_cases e : b = a
      · have q1 := (if_pos e).symm.trans q
        cases q1
        rw [e]
        exact ⟨Z.obj, by rw [List.length_map]; exact Z.len, us0, _, vals, Z.obj⟩
      · have q1 := (if_neg e).symm.trans q
        cases q1
    · by_cases e : b = a
      · exact e
      · exact absurd (if_neg e) q
end
/-- the row's walk -/
theorem walkG {l : PySem.W.OpenLaw} {n k : Nat} {q : Program} {loose : List Str} {XP : (Str → Option Value) → Heap → Prop} {YP : World → Heap → Prop} {d : DefRec} {K : Params → PySem.W.Frag} {sp : PySem.W.Frag → Sp} {x : Str}
    (hn : l.most = some n) (hz : n ≤ sizeLine) (nodef : d.params.defaults = []) (room : Room k callerA) (hY : ∀ (w : World) (h : Heap), YP w h → (K w.params).In h)
    (F : ∀ (w : World) (mg : Str → Option Value) (f : Addr) (h : Heap), (K w.params).In h → h.Ns mainGlobals mg → mg d.name = some (.ref f) →
      ∃ fd : FuncData, (∀ (s : Shared) (u : Value), BindsTo s fd ⟨[u], []⟩ [(x, u)]) ∧ ∀ base : Heap, FnG l.prog w (K w.params) mg base CX0 k f fd [x] (sp (K w.params)))
    (prom : ∀ (K : PySem.W.Frag) (H : Hp) (a : Addr) (ns : List Int), ns.length ≤ n → SqL K H a (ns.map V.int) → sp K [.ref a] H (fun v _ => v = .bl true) fun _ _ _ => False) :
    PySem.W.WalkO q loose XP YP l.row.toRowW d [] (fun f vs => PySem.call f vs) := by
  refine Att.attach_call hn nodef fun w s0 t0 mg mb f o pm cd doc a us0 ns G Y _ _ _ here obj are len gens => ?_
  have kin := hY w _ Y
  obtain ⟨fd, b, FF⟩ := F w mg f _ kin G.T.g here
  have Z : Ahead (K w.params) mg mb t0 a us0 ns := ⟨kin, G.T.g, G.T.b, G.T.builtins, G.T.nolimit, gens, obj, are, Nat.le_trans len hz⟩
  exact Z.call room (fun base _ _ => FF base) b fun H hS => prom _ H a ns len hS
/-- a def of the top, where it stands -/
theorem src_of {K : PySem.W.Frag} {mg : Str → Option Value} {h : Heap} {x : Str} {st : Stmt} {ps : List Str} {f : Addr} {oc kV doc pm cdv ct : Value} {od an : Option Addr} {osl : Array (Option Value)} (X : K.In h) (G : h.Ns mainGlobals mg)
    (e1 : PySem.W.nsIn K mainGlobals x = some (some (.ref f))) (e2 : K.lookup f = some ⟨oc, od, .func (PySem.W.fnOf x x (defArgs st) (defBody st) (defScope st) .none kV doc pm an cdv ct), osl⟩) (e3 : PySem.W.codeIn K cdv x = true) (e4 : PySem.W.keepIn K (.ref f) = true)
    (hb : ∀ (kV doc pm : Value) (an : Option Addr) (cdv ct : Value) (us : List Value), us.length = ps.length → bindArgs (PySem.W.fnOf x x (defArgs st) (defBody st) (defScope st) .none kV doc pm an cdv ct) ⟨us, []⟩ = pure (ps.zip us)) : ∃ f fd, Src K mg x st ps f fd :=
  ⟨f, _, fun_mk e2 e3 e4, PySem.W.mg_of X G e1, (fun_mk e2 e3 e4).binds hb⟩
/-- a tuple of texts of the top -/
theorem tup_of {K : PySem.W.Frag} {mg : Str → Option Value} {h : Heap} {x : Str} {a : Addr} {ws : List Str} {o : Obj} {its : Array Value} {n : Nat} (X : K.In h) (G : h.Ns mainGlobals mg) (e1 : PySem.W.nsIn K mainGlobals x = some (some (.ref a))) (e2 : K.lookup a = some o)
    (e3 : o.cls = .type "tuple" ∧ o.data = .seq its n ∧ its.size ≤ sizeLine ∧ Vals (ws.map V.str) its.toList) : ∃ a, mg x = some (.ref a) ∧ ∀ H, SqT K H a (ws.map V.str) :=
  ⟨a, PySem.W.mg_of X G e1, fun H => .inr ⟨o, its, n, e2, e3.1, e3.2.1, e3.2.2.1, e3.2.2.2⟩⟩
theorem da_walk {l : PySem.W.OpenLaw} {q : Program} {loose : List Str} {XP : (Str → Option Value) → Heap → Prop} {YP : World → Heap → Prop} {d : DefRec} {K : Params → PySem.W.Frag} (hn : l.most = some 63) (nodef : d.params.defaults = []) (nm : d.name = "law")
    (hY : ∀ (w : World) (h : Heap), YP w h → (K w.params).In h) (F : ∀ (w : World) (mg : Str → Option Value) (h : Heap), (K w.params).In h → h.Ns mainGlobals mg → Txt (K w.params) mg) : PySem.W.WalkO q loose XP YP l.row.toRowW d [] (fun f vs => PySem.call f vs) :=
  walkG (n := 63) (k := 6) (x := "script") (sp := spLaw) hn (by decide) nodef ⟨rfl, by decide, by decide⟩ hY (fun w mg f h kin G here => by
    have T := F w mg h kin G
    obtain ⟨f0, fd0, S0⟩ := T.d_law
    have e := S0.at_.symm.trans (nm ▸ here)
    cases e
    refine ⟨fd0, fun s u => ?_, fun base => ?_⟩
    · obtain ⟨oc, od, kV, doc, pm, an, cdv, ct, osl, rfl, _⟩ := S0.fn.ex
      exact .of_eq rfl
    · obtain ⟨f1, fd1, R, S1⟩ := D_law (P := l.prog) (w := w) (base := base) T
      have e1 := S1.at_.symm.trans S0.at_
      cases e1
      have e2 : fd1 = fd0 := by
        obtain ⟨oc, od, kV, doc, pm, an, cdv, ct, osl, rfl, lk, _⟩ := S0.fn.ex
        obtain ⟨oc', od', kV', doc', pm', an', cdv', ct', osl', rfl, lk', _⟩ := S1.fn.ex
        rw [lk] at lk'
        cases lk'
        rfl
      rw [← e2]
      exact R) fun K H a ns hl hS => ⟨a, ns, rfl, hS, hl, fun _ => rfl⟩
end L2.Hx

open PySem PySem.W PyProof.Rows in
set_option maxRecDepth 100000 in
set_option maxHeartbeats 0 in
theorem PySem.Challenge.cw_heldapart_k09_rings_and_long_lists_holds : PySem.Challenge.rw_heldapart_k09_rings_and_long_lists.Holds := by
  w_on; o_law; k_head; (case hw => w_witness2)
  k_fill
  refine L2.Hx.da_walk (l := PySem.Challenge.rw_heldapart_k09_rings_and_long_lists) rfl rfl rfl (fun w h Y => PySem.W.kIn_of Y) ?F
  case F =>
    intro w mg h KX G
    have b_abs : mg "abs" = none := by
      refine PySem.W.mg_none_of KX G ?_
      k_is
    have b_dict : mg "dict" = none := by
      refine PySem.W.mg_none_of KX G ?_
      k_is
    have b_int : mg "int" = none := by
      refine PySem.W.mg_none_of KX G ?_
      k_is
    have b_len : mg "len" = none := by
      refine PySem.W.mg_none_of KX G ?_
      k_is
    have b_list : mg "list" = none := by
      refine PySem.W.mg_none_of KX G ?_
      k_is
    have b_range : mg "range" = none := by
      refine PySem.W.mg_none_of KX G ?_
      k_is
    have b_repr : mg "repr" = none := by
      refine PySem.W.mg_none_of KX G ?_
      k_is
    have b_sorted : mg "sorted" = none := by
      refine PySem.W.mg_none_of KX G ?_
      k_is
    have b_sum : mg "sum" = none := by
      refine PySem.W.mg_none_of KX G ?_
      k_is
    have b_tuple : mg "tuple" = none := by
      refine PySem.W.mg_none_of KX G ?_
      k_is
    have b_zip : mg "zip" = none := by
      refine PySem.W.mg_none_of KX G ?_
      k_is
    have d_holds : ∃ f fd, L2.Hx.Src (L2.KOf KX) mg "holds" L2.Hx.s_holds ["saying", "store", "heap"] f fd := by
      dsimp only [L2.KOf]
      refine' L2.Hx.src_of KX G ?e1_11 ?e2_11 ?e3_11 ?e4_11 (fun _ _ _ _ _ _ us hl => match us, hl with | [_, _, _], _ => rfl)
      (case e1_11 => k_is)
      (case e2_11 => k_is)
      (case e3_11 => k_is)
      (case e4_11 => k_is)
    have d_part_of : ∃ f fd, L2.Hx.Src (L2.KOf KX) mg "part_of" L2.Hx.s_part_of ["clause", "store", "heap"] f fd := by
      dsimp only [L2.KOf]
      refine' L2.Hx.src_of KX G ?e1_12 ?e2_12 ?e3_12 ?e4_12 (fun _ _ _ _ _ _ us hl => match us, hl with | [_, _, _], _ => rfl)
      (case e1_12 => k_is)
      (case e2_12 => k_is)
      (case e3_12 => k_is)
      (case e4_12 => k_is)
    have d_values_of : ∃ f fd, L2.Hx.Src (L2.KOf KX) mg "values_of" L2.Hx.s_values_of ["store"] f fd := by
      dsimp only [L2.KOf]
      refine' L2.Hx.src_of KX G ?e1_13 ?e2_13 ?e3_13 ?e4_13 (fun _ _ _ _ _ _ us hl => match us, hl with | [_], _ => rfl)
      (case e1_13 => k_is)
      (case e2_13 => k_is)
      (case e3_13 => k_is)
      (case e4_13 => k_is)
    have d_looks_hold : ∃ f fd, L2.Hx.Src (L2.KOf KX) mg "looks_hold" L2.Hx.s_looks_hold ["looks", "values"] f fd := by
      dsimp only [L2.KOf]
      refine' L2.Hx.src_of KX G ?e1_14 ?e2_14 ?e3_14 ?e4_14 (fun _ _ _ _ _ _ us hl => match us, hl with | [_, _], _ => rfl)
      (case e1_14 => k_is)
      (case e2_14 => k_is)
      (case e3_14 => k_is)
      (case e4_14 => k_is)
    have d_takes_all : ∃ f fd, L2.Hx.Src (L2.KOf KX) mg "takes_all" L2.Hx.s_takes_all ["saying", "values", "leads", "singles"] f fd := by
      dsimp only [L2.KOf]
      refine' L2.Hx.src_of KX G ?e1_15 ?e2_15 ?e3_15 ?e4_15 (fun _ _ _ _ _ _ us hl => match us, hl with | [_, _, _, _], _ => rfl)
      (case e1_15 => k_is)
      (case e2_15 => k_is)
      (case e3_15 => k_is)
      (case e4_15 => k_is)
    have d_taken : ∃ f fd, L2.Hx.Src (L2.KOf KX) mg "taken" L2.Hx.s_taken ["clause", "values", "leads", "singles"] f fd := by
      dsimp only [L2.KOf]
      refine' L2.Hx.src_of KX G ?e1_16 ?e2_16 ?e3_16 ?e4_16 (fun _ _ _ _ _ _ us hl => match us, hl with | [_, _, _, _], _ => rfl)
      (case e1_16 => k_is)
      (case e2_16 => k_is)
      (case e3_16 => k_is)
      (case e4_16 => k_is)
    have d_takes_list : ∃ f fd, L2.Hx.Src (L2.KOf KX) mg "takes_list" L2.Hx.s_takes_list ["at", "end", "leads", "took"] f fd := by
      dsimp only [L2.KOf]
      refine' L2.Hx.src_of KX G ?e1_17 ?e2_17 ?e3_17 ?e4_17 (fun _ _ _ _ _ _ us hl => match us, hl with | [_, _, _, _], _ => rfl)
      (case e1_17 => k_is)
      (case e2_17 => k_is)
      (case e3_17 => k_is)
      (case e4_17 => k_is)
    have d_lost : ∃ f fd, L2.Hx.Src (L2.KOf KX) mg "lost" L2.Hx.s_lost ["store", "heap"] f fd := by
      dsimp only [L2.KOf]
      refine' L2.Hx.src_of KX G ?e1_18 ?e2_18 ?e3_18 ?e4_18 (fun _ _ _ _ _ _ us hl => match us, hl with | [_, _], _ => rfl)
      (case e1_18 => k_is)
      (case e2_18 => k_is)
      (case e3_18 => k_is)
      (case e4_18 => k_is)
    have d_l_deck : ∃ f fd, L2.Hx.Src (L2.KOf KX) mg "_law_deck" L2.Hx.s_l_deck ["script"] f fd := by
      dsimp only [L2.KOf]
      refine' L2.Hx.src_of KX G ?e1_19 ?e2_19 ?e3_19 ?e4_19 (fun _ _ _ _ _ _ us hl => match us, hl with | [_], _ => rfl)
      (case e1_19 => k_is)
      (case e2_19 => k_is)
      (case e3_19 => k_is)
      (case e4_19 => k_is)
    have d_l_draw : ∃ f fd, L2.Hx.Src (L2.KOf KX) mg "_law_draw" L2.Hx.s_l_draw ["deck", "many"] f fd := by
      dsimp only [L2.KOf]
      refine' L2.Hx.src_of KX G ?e1_20 ?e2_20 ?e3_20 ?e4_20 (fun _ _ _ _ _ _ us hl => match us, hl with | [_, _], _ => rfl)
      (case e1_20 => k_is)
      (case e2_20 => k_is)
      (case e3_20 => k_is)
      (case e4_20 => k_is)
    have d_l_pick : ∃ f fd, L2.Hx.Src (L2.KOf KX) mg "_law_pick" L2.Hx.s_l_pick ["deck", "items"] f fd := by
      dsimp only [L2.KOf]
      refine' L2.Hx.src_of KX G ?e1_21 ?e2_21 ?e3_21 ?e4_21 (fun _ _ _ _ _ _ us hl => match us, hl with | [_, _], _ => rfl)
      (case e1_21 => k_is)
      (case e2_21 => k_is)
      (case e3_21 => k_is)
      (case e4_21 => k_is)
    have d_l_shuffled : ∃ f fd, L2.Hx.Src (L2.KOf KX) mg "_law_shuffled" L2.Hx.s_l_shuffled ["deck", "items"] f fd := by
      dsimp only [L2.KOf]
      refine' L2.Hx.src_of KX G ?e1_22 ?e2_22 ?e3_22 ?e4_22 (fun _ _ _ _ _ _ us hl => match us, hl with | [_, _], _ => rfl)
      (case e1_22 => k_is)
      (case e2_22 => k_is)
      (case e3_22 => k_is)
      (case e4_22 => k_is)
    have d_l_worth : ∃ f fd, L2.Hx.Src (L2.KOf KX) mg "_law_worth" L2.Hx.s_l_worth ["store", "term"] f fd := by
      dsimp only [L2.KOf]
      refine' L2.Hx.src_of KX G ?e1_23 ?e2_23 ?e3_23 ?e4_23 (fun _ _ _ _ _ _ us hl => match us, hl with | [_, _], _ => rfl)
      (case e1_23 => k_is)
      (case e2_23 => k_is)
      (case e3_23 => k_is)
      (case e4_23 => k_is)
    have d_l_looks_true : ∃ f fd, L2.Hx.Src (L2.KOf KX) mg "_law_looks_true" L2.Hx.s_l_looks_true ["clause", "store"] f fd := by
      dsimp only [L2.KOf]
      refine' L2.Hx.src_of KX G ?e1_24 ?e2_24 ?e3_24 ?e4_24 (fun _ _ _ _ _ _ us hl => match us, hl with | [_, _], _ => rfl)
      (case e1_24 => k_is)
      (case e2_24 => k_is)
      (case e3_24 => k_is)
      (case e4_24 => k_is)
    have d_l_road : ∃ f fd, L2.Hx.Src (L2.KOf KX) mg "_law_road" L2.Hx.s_l_road ["part", "store", "heap"] f fd := by
      dsimp only [L2.KOf]
      refine' L2.Hx.src_of KX G ?e1_25 ?e2_25 ?e3_25 ?e4_25 (fun _ _ _ _ _ _ us hl => match us, hl with | [_, _, _], _ => rfl)
      (case e1_25 => k_is)
      (case e2_25 => k_is)
      (case e3_25 => k_is)
      (case e4_25 => k_is)
    have d_l_roads : ∃ f fd, L2.Hx.Src (L2.KOf KX) mg "_law_roads" L2.Hx.s_l_roads ["clause", "store", "heap"] f fd := by
      dsimp only [L2.KOf]
      refine' L2.Hx.src_of KX G ?e1_26 ?e2_26 ?e3_26 ?e4_26 (fun _ _ _ _ _ _ us hl => match us, hl with | [_, _, _], _ => rfl)
      (case e1_26 => k_is)
      (case e2_26 => k_is)
      (case e3_26 => k_is)
      (case e4_26 => k_is)
    have d_l_chain : ∃ f fd, L2.Hx.Src (L2.KOf KX) mg "_law_chain" L2.Hx.s_l_chain ["deck", "many", "way"] f fd := by
      dsimp only [L2.KOf]
      refine' L2.Hx.src_of KX G ?e1_27 ?e2_27 ?e3_27 ?e4_27 (fun _ _ _ _ _ _ us hl => match us, hl with | [_, _, _], _ => rfl)
      (case e1_27 => k_is)
      (case e2_27 => k_is)
      (case e3_27 => k_is)
      (case e4_27 => k_is)
    have d_l_part : ∃ f fd, L2.Hx.Src (L2.KOf KX) mg "_law_part" L2.Hx.s_l_part ["clause", "store", "heap"] f fd := by
      dsimp only [L2.KOf]
      refine' L2.Hx.src_of KX G ?e1_28 ?e2_28 ?e3_28 ?e4_28 (fun _ _ _ _ _ _ us hl => match us, hl with | [_, _, _], _ => rfl)
      (case e1_28 => k_is)
      (case e2_28 => k_is)
      (case e3_28 => k_is)
      (case e4_28 => k_is)
    have d_l_lost : ∃ f fd, L2.Hx.Src (L2.KOf KX) mg "_law_lost" L2.Hx.s_l_lost ["store", "heap"] f fd := by
      dsimp only [L2.KOf]
      refine' L2.Hx.src_of KX G ?e1_29 ?e2_29 ?e3_29 ?e4_29 (fun _ _ _ _ _ _ us hl => match us, hl with | [_, _], _ => rfl)
      (case e1_29 => k_is)
      (case e2_29 => k_is)
      (case e3_29 => k_is)
      (case e4_29 => k_is)
    have d_l_is_right : ∃ f fd, L2.Hx.Src (L2.KOf KX) mg "_law_is_right" L2.Hx.s_l_is_right ["clause", "store", "heap", "is_named"] f fd := by
      dsimp only [L2.KOf]
      refine' L2.Hx.src_of KX G ?e1_30 ?e2_30 ?e3_30 ?e4_30 (fun _ _ _ _ _ _ us hl => match us, hl with | [_, _, _, _], _ => rfl)
      (case e1_30 => k_is)
      (case e2_30 => k_is)
      (case e3_30 => k_is)
      (case e4_30 => k_is)
    have d_law : ∃ f fd, L2.Hx.Src (L2.KOf KX) mg "law" L2.Hx.s_law ["script"] f fd := by
      dsimp only [L2.KOf]
      refine' L2.Hx.src_of KX G ?e1_31 ?e2_31 ?e3_31 ?e4_31 (fun _ _ _ _ _ _ us hl => match us, hl with | [_], _ => rfl)
      (case e1_31 => k_is)
      (case e2_31 => k_is)
      (case e3_31 => k_is)
      (case e4_31 => k_is)
    exact ⟨b_abs, b_dict, b_int, b_len, b_list, b_range, b_repr, b_sorted, b_sum, b_tuple, b_zip, d_holds, d_part_of, d_values_of, d_looks_hold, d_takes_all, d_taken, d_takes_list, d_lost, d_l_deck, d_l_draw, d_l_pick, d_l_shuffled, d_l_worth, d_l_looks_true, d_l_road, d_l_roads, d_l_chain, d_l_part, d_l_lost, d_l_is_right, d_law⟩

